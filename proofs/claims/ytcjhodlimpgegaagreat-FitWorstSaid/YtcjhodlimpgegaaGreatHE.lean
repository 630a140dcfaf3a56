/- Walks over the fits: the reference's corners and the clearance over a season. -/
import Derived.Test.YtcjhodlimpgegaaGreatHD
namespace Go.Proofs.YtcjhodlimpgegaaGreat
open Go.RowKit Go.Maps

def fillL (lo : Int) (N k : Nat) : List Int := (List.range N).map fun j => if j < k then lo else 0
theorem fillL_len (lo : Int) (N k : Nat) : (fillL lo N k).length = N := by unfold fillL; simp
theorem fillL_get {lo : Int} {N k j : Nat} (h : j < (fillL lo N k).length) : (fillL lo N k)[j] = if j < k then lo else 0 := by simp [fillL]
theorem fillL_set {lo : Int} {N k : Nat} : (fillL lo N k).set k lo = fillL lo N (k + 1) := by
  refine List.ext_getElem (by simp [fillL]) fun j h1 h2 => ?_
  rw [List.getElem_set, fillL_get h2]
  by_cases e : k = j
  · subst e; rw [if_pos rfl, if_pos (by omega)]
  · rw [if_neg e, fillL_get]
    by_cases h : j < k
    · rw [if_pos h, if_pos (by omega)]
    · rw [if_neg h, if_neg (by omega)]
theorem fillL_end {lo : Int} {N : Nat} {gs : List Int} (h : gs.length = N) : fillL lo N N = gs.map (fun _ => lo) := by
  refine List.ext_getElem (by simp [fillL, h]) fun j h1 h2 => ?_
  rw [fillL_get h1, if_pos (by rw [fillL_len] at h1; exact h1), List.getElem_map]
theorem fillL_zero (lo : Int) (N : Nat) : (madeCells (Value.int .i64 0).cells (N * 1)).toList = (fillL lo N 0).map (Value.int .i64) := by
  refine List.ext_getElem (by simp [madeCells, fillL]) fun j h1 h2 => ?_
  simp [madeCells, fillL, Value.cells, Nat.mod_one]
theorem map_set {k : Nat} {x : Int} {l : List Int} : (l.map (Value.int .i64)).set k (.int .i64 x) = (l.set k x).map (Value.int .i64) := by rw [List.map_set]
theorem corn_bd {O I : List Md} {lo hi : Int} {gs : List Int} {k : Nat} (l0 : 0 ≤ lo) (l1 : lo ≤ 400) (h0 : 0 ≤ hi) (h1 : hi ≤ 400) : (∀ t ∈ cornK O I lo hi gs k, 0 ≤ t ∧ t ≤ 400) ∧ (∀ t ∈ cornH O I lo hi gs k, 0 ≤ t ∧ t ≤ 400) := by
  have hp : ∀ g, 0 ≤ pickM O I lo hi g ∧ pickM O I lo hi g ≤ 400 := fun g => by unfold pickM; cases decide (share hi O I g < share lo O I g) <;> simp <;> omega
  constructor
  · intro t ht
    rcases List.mem_append.1 ht with h | h
    · obtain ⟨g, -, rfl⟩ := List.mem_map.1 h; exact hp g
    · obtain ⟨g, -, rfl⟩ := List.mem_map.1 h; omega
  · intro t ht
    rcases List.mem_append.1 ht with h | h
    · obtain ⟨g, -, rfl⟩ := List.mem_map.1 h; exact hp g
    · rcases List.mem_cons.1 h with rfl | h
      · omega
      · obtain ⟨g, -, rfl⟩ := List.mem_map.1 h; omega
theorem cornH_len {O I : List Md} {lo hi : Int} {gs : List Int} {k : Nat} (h : k < gs.length) : (cornH O I lo hi gs k).length = gs.length := by
  rw [← cornH_set O I lo hi h, List.length_set, cornK_len]
set_option maxHeartbeats 8000000 in
set_option maxRecDepth 20000 in
theorem rcorner_core {nm sn : ByteArray} {A A' : Option Addr} {n c n' c' N : Nat} {le mo lo hi side : Int} {o i0 O I : List Md} (hn : n ≤ 1000000) (hn' : n' ≤ 1000000) (hN : (gsOf (o ++ i0)).length = N) (hO : ∀ x ∈ O, x.g ∈ gsOf (o ++ i0)) (hI : ∀ x ∈ I, x.g ∈ gsOf (o ++ i0)) (l0 : 0 ≤ lo) (l1 : lo ≤ 400) (h0 : 0 ≤ hi) (h1 : hi ≤ 400)
    (w : World) (hA : MdRow w A n o) (hA' : MdRow w A' n' i0)
    (RV : ∀ wx (ms : List Int) M c2, Below w.heap.size w wx → ms.length = N → (∀ t ∈ ms, 0 ≤ t ∧ t ≤ 400) → IntsAt wx M ms → Calls Tryz.prog 104 #[ftV nm A n c A' n' c' le mo, .slice M N c2, .int .i64 side] wx fun e w' => e = .returned (.int .i64 (vL O I (gsOf (o ++ i0)) ms)) ∧ Below wx.heap.size wx w') :
    Calls Tryz.prog 62 #[ftV nm A n c A' n' c' le mo, .agg #[.string sn, .int .i64 lo, .int .i64 hi], .int .i64 side] w fun e w' => ∃ g cap, e = .returned (.slice (some ⟨g, 0, none⟩) N cap) ∧ w'.ownsRow w.heap.size 3 1 (.slice (some ⟨g, 0, none⟩) N cap) N (((gsOf (o ++ i0)).map (pickM O I lo hi)).map (Value.int .i64)) ∧ Below w.heap.size w w' := by
  have GL := gsOf_length (o ++ i0)
  have HNN := Lib.hid hN
  have hN20 : N ≤ 20 := by omega
  have HRV := Lib.hid RV
  have HCB := Lib.hid (fun k => corn_bd (O := O) (I := I) (gs := gsOf (o ++ i0)) (k := k) l0 l1 h0 h1)
  have HCL := Lib.hid (fun k (hk : k < (gsOf (o ++ i0)).length) => corn_less (o := O) (i := I) (lo := lo) (hi := hi) hk (gsOf_nodup _) hO hI)
  have hB0 : Below w.heap.size w ((w.alloc (.cells #[.string nm, .slice A n c, .slice A' n' c', .int .i64 le, .int .i64 mo] 24)).alloc (.cells #[.string sn, .int .i64 lo, .int .i64 hi] 27)) := ((Below.refl _ _).alloc (Nat.le_refl _) _).alloc (by simp) _
  have RG := Lib.hid (rgroups_any (nm := nm) (c := c) (c' := c') (le := le) (mo := mo) hn hn' _ (hA.below hB0) (hA'.below hB0))
  have hq : ∀ j (hj : j < 5), ((w.alloc (.cells #[.string nm, .slice A n c, .slice A' n' c', .int .i64 le, .int .i64 mo] 24)).alloc (.cells #[.string sn, .int .i64 lo, .int .i64 hi] 27)).cell? ⟨w.heap.size, j, none⟩ = #[Value.string nm, .slice A n c, .slice A' n' c', .int .i64 le, .int .i64 mo][j]? := by
    intro j hj; simp [go_sem]
  have hqs : ∀ j (hj : j < 3), ((w.alloc (.cells #[.string nm, .slice A n c, .slice A' n' c', .int .i64 le, .int .i64 mo] 24)).alloc (.cells #[.string sn, .int .i64 lo, .int .i64 hi] 27)).cell? ⟨w.heap.size + 1, j, none⟩ = #[Value.string sn, .int .i64 lo, .int .i64 hi][j]? := by
    intro j hj; simp [go_sem]
  have hs0 : ((w.alloc (.cells #[.string nm, .slice A n c, .slice A' n' c', .int .i64 le, .int .i64 mo] 24)).alloc (.cells #[.string sn, .int .i64 lo, .int .i64 hi] 27)).heap.size = w.heap.size + 2 := by simp
  obtain ⟨i1, hi1, hz0, hz1, hz2⟩ := info_parts infoI
  clear hA hA' RV hO hI l0 l1 h0 h1
  simp only [hN] at RG
  unfold ftV at RG HRV ⊢
  go_enter Tryz.func62, Tryz.ntmps62
  go_upto_region 1 with fail
  generalize ((w.alloc (.cells #[.string nm, .slice A n c, .slice A' n' c', .int .i64 le, .int .i64 mo] 24)).alloc (.cells #[.string sn, .int .i64 lo, .int .i64 hi] 27)) = W0 at hB0 RG hq hqs hs0 ⊢
  have HB0 := Lib.hid hB0
  have HS0 := Lib.hid hs0
  have LW := Lib.hid (fun wx (hb : Below W0.heap.size W0 wx) => (show Below w.heap.size w wx from HB0.out.trans (hb.mono HB0.out.size)))
  have KS := Lib.hid (fun wx (hb : Below W0.heap.size W0 wx) => (show Below W0.heap.size W0 wx ∧ wx.cell? ⟨w.heap.size, 0, none⟩ = some (.string nm) ∧ wx.cell? ⟨w.heap.size, 0 + 1, none⟩ = some (.slice A n c) ∧ wx.cell? ⟨w.heap.size, 0 + 2, none⟩ = some (.slice A' n' c') ∧ wx.cell? ⟨w.heap.size, 0 + 3, none⟩ = some (.int .i64 le) ∧ wx.cell? ⟨w.heap.size, 0 + 4, none⟩ = some (.int .i64 mo) from by
    have k := (bcell hb).1
    exact ⟨hb, (k _ _ (by omega)).trans (hq 0 (by omega)), (k _ _ (by omega)).trans (hq 1 (by omega)), (k _ _ (by omega)).trans (hq 2 (by omega)), (k _ _ (by omega)).trans (hq 3 (by omega)), (k _ _ (by omega)).trans (hq 4 (by omega))⟩))
  have KL := Lib.hid (fun wx (hb : Below W0.heap.size W0 wx) => And.intro (((bcell hb).1 _ _ (by omega)).trans (hqs 1 (by omega)) : wx.cell? ⟨w.heap.size + 1, 1, none⟩ = some (.int .i64 lo)) (((bcell hb).1 _ _ (by omega)).trans (hqs 2 (by omega)) : wx.cell? ⟨w.heap.size + 1, 2, none⟩ = some (.int .i64 hi)))
  obtain ⟨-, e0, e1, e2, e3, e4⟩ := KS.out W0 (Below.refl _ _)
  clear hq hqs hs0 hB0
  go_wp2_with (first | (go_at_call 19; refine Calls.mono RG.out ?_; rintro e W1 ⟨G, gc, rfl, hG, hb1⟩; have hs1 := hb1.size) | (refine wpList_make_full _ rfl _ _ 25 rfl W1.heap.size 3 i1 (.int .i64 0) 1 Tryz.underlying25 hi1 hz0 hz1 .i64 .i64 _ _ N rfl rfl rfl rfl (by rw [hz2]; omega) (by unfold maxLen; omega) (Nat.le_refl _) ?_; intro w2 hown2 hgrow2))
  have HB1 := Lib.hid hb1
  have HGI := Lib.hid hG
  rw [fillL_zero lo N] at hown2
  have hb2 : Below W1.heap.size W1 w2 := (Below.refl _ _).grown hgrow2 (Nat.le_refl _) (fun j hj => by cases hj)
  clear e0 e1 e2 e3 e4 hb1 hG hgrow2 RG
  have LW1 := Lib.hid (fun wx (hb : Below W1.heap.size W1 wx) => (show Below W0.heap.size W0 wx from HB1.out.trans (hb.mono HB1.out.size)))
  have HB2 := Lib.hid hb2
  have HO2 := Lib.hid hown2
  clear hb2 hown2
  go_loopw [9] (fun i wr => ∃ k : Nat, k ≤ N ∧ i = .int .i64 k ∧ Hid (wr.ownsRow W1.heap.size 3 1 (.slice (some ⟨W1.heap.size, 0, none⟩) N N) N ((fillL lo N k).map (Value.int .i64))) ∧ Hid (Below W1.heap.size W1 wr)) (fun i _ => N - (intOf i).toNat)
  case atStart => exact ⟨0, Nat.zero_le _, rfl, HO2, HB2⟩
  case round =>
    obtain ⟨k, hk, rfl, HOW, HB⟩ := hrel
    by_cases hlt : k < N
    · have c1 := (KL.out wr (LW1.out wr HB.out)).1
      have x1 : wr.cell? ⟨W1.heap.size, k, none⟩ = some (.int .i64 ((fillL lo N k)[k]'(by rw [fillL_len]; exact hlt))) := by
        rw [HOW.out.cellAt k (by omega), List.getElem?_map, List.getElem?_eq_getElem (by rw [fillL_len]; exact hlt)]; rfl
      have x2 := HOW.out.frozenAt k
      have HST := Lib.hid (HOW.out.stored k (.int .i64 lo))
      obtain ⟨y, hy⟩ : ∃ y, (fillL lo N k)[k]'(by rw [fillL_len]; exact hlt) = y := ⟨_, rfl⟩
      rw [hy] at x1
      clear hy
      have hkN : (k : Int) < (N : Int) := by omega
      have hlow : W1.heap.size ≤ W1.heap.size := Nat.le_refl _
      go_wp2
      go_roundw
      case rel =>
        refine ⟨k + 1, by omega, by go_num, Lib.hid ?_, Lib.hid (HB.out.setCell (p := ⟨W1.heap.size, k, none⟩) (Nat.le_refl _) _)⟩
        have := HST.out.1
        rw [map_set, fillL_set] at this
        exact this
      case measure => simp [intOf]; omega
    · have hk' : k = N := by omega
      subst hk'
      have HOW2 : Hid (wr.ownsRow W1.heap.size 3 1 (.slice (some ⟨W1.heap.size, 0, none⟩) k k) k ((cornK O I lo hi (gsOf (o ++ i0)) 0).map (Value.int .i64))) := Lib.hid (by rw [cornK_zero, ← fillL_end HNN.out]; exact HOW.out)
      clear HOW HO2 HB2
      obtain ⟨N, hNk⟩ : ∃ N, N = k := ⟨_, rfl⟩
      rw [← hNk] at HOW2 HNN hN20 HRV hN ⊢
      have HNK := Lib.hid hNk
      clear hNk hk hlt
      obtain ⟨wv, hwv⟩ : ∃ wv, wv = wr := ⟨_, rfl⟩
      rw [← hwv] at HOW2 HB ⊢
      clear hwv
      go_wp2
      go_loopw [8, 10] (fun out i wr => ∃ (k g cap : Nat), k ≤ N ∧ i = .int .i64 k ∧ out = .slice (some ⟨g, 0, none⟩) N cap ∧ Hid (wr.ownsRow W1.heap.size 3 1 (.slice (some ⟨g, 0, none⟩) N cap) N ((cornK O I lo hi (gsOf (o ++ i0)) k).map (Value.int .i64))) ∧ Hid (Below W1.heap.size W1 wr)) (fun _ i _ => N - (intOf i).toNat)
      case atStart => exact ⟨0, _, _, Nat.zero_le _, rfl, rfl, HOW2, HB⟩
      case round =>
        obtain ⟨k, g, cap, hk, rfl, rfl, HOW, HB⟩ := hrel
        by_cases hlt : k < N
        · have hkg : k < (gsOf (o ++ i0)).length := by rw [HNN.out]; exact hlt
          have hlk : (cornK O I lo hi (gsOf (o ++ i0)) k).length = N := by rw [cornK_len, HNN.out]
          have hlh : (cornH O I lo hi (gsOf (o ++ i0)) k).length = N := by rw [cornH_len hkg, HNN.out]
          have HIO : Hid (∀ wx, Below wr.heap.size wr wx → IntsAt wx (some ⟨g, 0, none⟩) (cornK O I lo hi (gsOf (o ++ i0)) k)) := Lib.hid (fun wx hb => by
            obtain ⟨A1, c1, e1, hi1', -⟩ := own_ints HOW.out hlk.symm
            injection e1 with e1 e2 e3
            subst e1
            exact hi1'.below hb)
          have CP := Lib.hid (copyInts_any (c := cap) hlk (by omega) wr (HIO.out wr (Below.refl _ _)))
          have HSET := Lib.hid (cornH_set O I lo hi hkg)
          have HNX := Lib.hid (corn_next O I lo hi hkg)
          have HLS := Lib.hid (HCL.out k hkg)
          have HBD := HCB.out k
          have HBK := Lib.hid HBD.1
          have HBH := Lib.hid HBD.2
          clear HBD
          have hsw := HB.out.size
          have HBW0 := Lib.hid (LW1.out wr HB.out)
          have hkN : (k : Int) < (N : Int) := by omega
          go_upto_region 12 with (go_at_call 103; refine Calls.mono CP.out ?_; rintro e w3 ⟨v3, rfl, hown3, hb3⟩; obtain ⟨g3, cap3, rfl, hg3, hg3lt⟩ := hown3.form (by omega); have c2 := (KL.out w3 (HBW0.out.trans (hb3.mono HBW0.out.size))).2; have x1 : w3.cell? ⟨g3, k, none⟩ = some (.int .i64 ((cornK O I lo hi (gsOf (o ++ i0)) k)[k]'(by rw [hlk]; exact hlt))) := (by rw [hown3.cellAt k (by omega), List.getElem?_map, List.getElem?_eq_getElem (by rw [hlk]; exact hlt)]; rfl); have x2 := hown3.frozenAt k; have HST := Lib.hid (hown3.stored k (.int .i64 hi)))
          have HB4 : Hid (Below wr.heap.size wr (w3.setCell ⟨g3, k, none⟩ (.int .i64 hi))) := Lib.hid (hb3.setCell (p := ⟨g3, k, none⟩) hg3 _)
          have HO4 : Hid ((w3.setCell ⟨g3, k, none⟩ (.int .i64 hi)).ownsRow wr.heap.size 3 1 (.slice (some ⟨g3, 0, none⟩) N cap3) N ((cornH O I lo hi (gsOf (o ++ i0)) k).map (Value.int .i64))) := Lib.hid (by
            have := HST.out.1
            rw [map_set, HSET.out] at this
            exact this)
          clear c2 x1 x2 HST hown3 hb3 hg3 hg3lt CP
          generalize (w3.setCell ⟨g3, k, none⟩ (.int .i64 hi)) = w4 at HB4 HO4 ⊢
          have HB40 := Lib.hid (HBW0.out.trans (HB4.out.mono HBW0.out.size))
          obtain ⟨-, e0, e1, e2, e3, e4⟩ := KS.out w4 HB40.out
          have HIN : Hid (∀ wx, Below w4.heap.size w4 wx → IntsAt wx (some ⟨g3, 0, none⟩) (cornH O I lo hi (gsOf (o ++ i0)) k)) := Lib.hid (fun wx hb => by
            obtain ⟨A1, c1, e1, hi1', -⟩ := own_ints HO4.out hlh.symm
            injection e1 with e1 e2 e3
            subst e1
            exact hi1'.below hb)
          have HIO2 : Hid (∀ wx, Below w4.heap.size w4 wx → IntsAt wx (some ⟨g, 0, none⟩) (cornK O I lo hi (gsOf (o ++ i0)) k)) := Lib.hid (fun wx hb => HIO.out wx (HB4.out.trans (hb.mono HB4.out.size)))
          have KS4 := Lib.hid (fun wx (hb : Below w4.heap.size w4 wx) => And.intro hb (KS.out wx (HB40.out.trans (hb.mono HB40.out.size))))
          have V1 := Lib.hid (fun wx (hb : Below w4.heap.size w4 wx) => HRV.out wx _ (some ⟨g3, 0, none⟩) cap3 (LW.out _ (HB40.out.trans (hb.mono HB40.out.size))) hlh HBH.out (HIN.out wx hb))
          have V2 := Lib.hid (fun wx (hb : Below w4.heap.size w4 wx) => HRV.out wx _ (some ⟨g, 0, none⟩) cap (LW.out _ (HB40.out.trans (hb.mono HB40.out.size))) hlk HBK.out (HIO2.out wx hb))
          obtain ⟨u, hu⟩ : ∃ u, vL O I (gsOf (o ++ i0)) (cornH O I lo hi (gsOf (o ++ i0)) k) = u := ⟨_, rfl⟩
          obtain ⟨v, hv⟩ : ∃ v, vL O I (gsOf (o ++ i0)) (cornK O I lo hi (gsOf (o ++ i0)) k) = v := ⟨_, rfl⟩
          rw [hu, hv] at HLS
          simp only [hu] at V1
          simp only [hv] at V2
          clear hu hv e0 e1 e2 e3 e4
          by_cases hcmp : u < v
          · have HNXT : Hid (cornK O I lo hi (gsOf (o ++ i0)) (k + 1) = cornH O I lo hi (gsOf (o ++ i0)) k) := Lib.hid (by rw [HNX.out, decide_eq_true (HLS.out.1 hcmp)]; rfl)
            go_region_held3 (fun wx => Below w4.heap.size w4 wx ∧ Below W0.heap.size W0 wx ∧ wx.cell? ⟨w.heap.size, 0, none⟩ = some (.string nm) ∧ wx.cell? ⟨w.heap.size, 0 + 1, none⟩ = some (.slice A n c) ∧ wx.cell? ⟨w.heap.size, 0 + 2, none⟩ = some (.slice A' n' c') ∧ wx.cell? ⟨w.heap.size, 0 + 3, none⟩ = some (.int .i64 le) ∧ wx.cell? ⟨w.heap.size, 0 + 4, none⟩ = some (.int .i64 mo)) (first | assumption | (exact KS4.out _ (Below.refl _ _).drew) | (exact KS4.out _ (Below.trans (And.left (by assumption)) (Below.mono hbx (Below.size (And.left (by assumption))))))) (first | (go_at_call 104; (first | with_reducible refine Calls.mono (V1.out _ (And.left (by assumption))) ?_ | with_reducible refine Calls.mono (V2.out _ (And.left (by assumption))) ?_); rintro e wb ⟨rfl, hbx⟩))
            all_goals
              have HBX := Lib.hid (And.left (by assumption) : Below w4.heap.size w4 wb)
              go_wp2
              go_roundw
              case rel =>
                refine ⟨k + 1, g3, cap3, by omega, by go_num, by first | rfl | trivial, Lib.hid ?_, Lib.hid (HB.out.trans ((HB4.out.trans (HBX.out.mono HB4.out.size)).mono HB.out.size))⟩
                rw [HNXT.out]
                exact own_low (base' := W1.heap.size) (own_kept HO4.out HBX.out) HB.out.size
              case measure => simp [intOf]; omega
          · have HNXT : Hid (cornK O I lo hi (gsOf (o ++ i0)) (k + 1) = cornK O I lo hi (gsOf (o ++ i0)) k) := Lib.hid (by rw [HNX.out, decide_eq_false (fun h => hcmp (HLS.out.2 h))]; rfl)
            go_region_held3 (fun wx => Below w4.heap.size w4 wx ∧ Below W0.heap.size W0 wx ∧ wx.cell? ⟨w.heap.size, 0, none⟩ = some (.string nm) ∧ wx.cell? ⟨w.heap.size, 0 + 1, none⟩ = some (.slice A n c) ∧ wx.cell? ⟨w.heap.size, 0 + 2, none⟩ = some (.slice A' n' c') ∧ wx.cell? ⟨w.heap.size, 0 + 3, none⟩ = some (.int .i64 le) ∧ wx.cell? ⟨w.heap.size, 0 + 4, none⟩ = some (.int .i64 mo)) (first | assumption | (exact KS4.out _ (Below.refl _ _).drew) | (exact KS4.out _ (Below.trans (And.left (by assumption)) (Below.mono hbx (Below.size (And.left (by assumption))))))) (first | (go_at_call 104; (first | with_reducible refine Calls.mono (V1.out _ (And.left (by assumption))) ?_ | with_reducible refine Calls.mono (V2.out _ (And.left (by assumption))) ?_); rintro e wb ⟨rfl, hbx⟩))
            all_goals
              have HBX := Lib.hid (And.left (by assumption) : Below w4.heap.size w4 wb)
              go_wp2
              go_roundw
              case rel =>
                refine ⟨k + 1, g, cap, by omega, by go_num, by first | rfl | trivial, Lib.hid ?_, Lib.hid (HB.out.trans ((HB4.out.trans (HBX.out.mono HB4.out.size)).mono HB.out.size))⟩
                rw [HNXT.out]
                exact own_kept HOW.out (HB4.out.trans (HBX.out.mono HB4.out.size))
              case measure => simp [intOf]; omega
        · have hk' : k = N := by omega
          subst hk'
          have HE : Hid (cornK O I lo hi (gsOf (o ++ i0)) k = (gsOf (o ++ i0)).map (pickM O I lo hi)) := Lib.hid (cornK_end O I lo hi (by rw [HNN.out]; exact Nat.le_refl _))
          go_wp2
          go_ret
          have hown := own_low (base' := w.heap.size) HOW.out (by have := HS0.out; omega)
          rw [HE.out] at hown
          have e9 := HNK.out
          subst e9
          exact ⟨_, _, rfl, hown, LW.out _ (LW1.out _ HB.out)⟩
theorem gs_mem {o i : List Md} (ho : ∀ x ∈ o, MdOk x) (hi : ∀ x ∈ i, MdOk x) : (∀ x ∈ o, x.g ∈ gsOf (o ++ i)) ∧ (∀ x ∈ i, x.g ∈ gsOf (o ++ i)) := by
  have hall : ∀ x ∈ o ++ i, MdOk x := fun x hx => (List.mem_append.1 hx).elim (ho x) (hi x)
  have : ∀ x ∈ o ++ i, x.g ∈ gsOf (o ++ i) := fun x hx => (mem_gsOf hall x.g).2 (List.any_eq_true.2 ⟨x, hx, by simp⟩)
  exact ⟨fun x hx => this x (List.mem_append_left _ hx), fun x hx => this x (List.mem_append_right _ hx)⟩
theorem brkM_pick (side : Int) (o i : List Md) (lo hi : Int) : brkM side o i lo hi = (gsOf (o ++ i)).map (bif decide (side = 1) then pickM i o lo hi else pickM o i lo hi) := by
  unfold brkM
  cases decide (side = 1)
  · rfl
  · show moistS i o lo hi = _
    rw [moistS_pick, gsOf_comm]; rfl
theorem brkM_len (side : Int) (o i : List Md) (lo hi : Int) : (brkM side o i lo hi).length = (gsOf (o ++ i)).length := by rw [brkM_pick, List.length_map]
theorem brkM_bd {side : Int} {o i : List Md} {lo hi : Int} (l0 : 0 ≤ lo) (l1 : lo ≤ 400) (h0 : 0 ≤ hi) (h1 : hi ≤ 400) : ∀ t ∈ brkM side o i lo hi, 0 ≤ t ∧ t ≤ 400 := by
  intro t ht
  rw [brkM_pick] at ht
  obtain ⟨g, -, rfl⟩ := List.mem_map.1 ht
  cases decide (side = 1) <;> simp only [cond_true, cond_false] <;> unfold pickM
  · cases decide (share hi o i g < share lo o i g) <;> simp <;> omega
  · cases decide (share hi i o g < share lo i o g) <;> simp <;> omega
/-- The moistures at which a clearance is least, or greatest. -/
theorem rcorner_any {nm sn : ByteArray} {A A' : Option Addr} {n c n' c' N : Nat} {le mo lo hi side : Int} {o i0 : List Md} (hs : side = -1 ∨ side = 1) (ho : ∀ x ∈ o, MdOk x) (hi' : ∀ x ∈ i0, MdOk x) (hn : n + n' ≤ 20) (hN : (gsOf (o ++ i0)).length = N) (l0 : 0 ≤ lo) (l1 : lo ≤ 400) (h0 : 0 ≤ hi) (h1 : hi ≤ 400)
    (w : World) (hA : MdRow w A n o) (hA' : MdRow w A' n' i0) :
    Calls Tryz.prog 62 #[ftV nm A n c A' n' c' le mo, .agg #[.string sn, .int .i64 lo, .int .i64 hi], .int .i64 side] w fun e w' => ∃ g cap, e = .returned (.slice (some ⟨g, 0, none⟩) N cap) ∧ w'.ownsRow w.heap.size 3 1 (.slice (some ⟨g, 0, none⟩) N cap) N ((brkM side o i0 lo hi).map (Value.int .i64)) ∧ Below w.heap.size w w' := by
  obtain ⟨m1, m2⟩ := gs_mem ho hi'
  have RV := fun wx (ms : List Int) M c2 (hb : Below w.heap.size w wx) (hl : ms.length = N) (hms : ∀ t ∈ ms, 0 ≤ t ∧ t ≤ 400) (hM : IntsAt wx M ms) => rvalue_any (nm := nm) (c := c) (c' := c') (c2 := c2) (le := le) (mo := mo) hs ho hi' hn hN hl hms wx (hA.below hb) (hA'.below hb) hM
  rw [brkM_pick]
  rcases hs with rfl | rfl
  · exact rcorner_core (O := o) (I := i0) (by omega) (by omega) hN m1 m2 l0 l1 h0 h1 w hA hA' RV
  · exact rcorner_core (O := i0) (I := o) (by omega) (by omega) hN m2 m1 l0 l1 h0 h1 w hA hA' RV
set_option maxHeartbeats 4000000 in
set_option maxRecDepth 20000 in
/-- The least and the greatest clearance of a season. -/
theorem rover_any {nm sn : ByteArray} {A A' : Option Addr} {n c n' c' : Nat} {le mo lo hi : Int} {o i0 : List Md} (ho : ∀ x ∈ o, MdOk x) (hi' : ∀ x ∈ i0, MdOk x) (hn : n + n' ≤ 20) (l0 : 0 ≤ lo) (l1 : lo ≤ 400) (h0 : 0 ≤ hi) (h1 : hi ≤ 400)
    (w : World) (hA : MdRow w A n o) (hA' : MdRow w A' n' i0) :
    Calls Tryz.prog 17 #[ftV nm A n c A' n' c' le mo, .agg #[.string sn, .int .i64 lo, .int .i64 hi]] w fun e w' => e = .returned (.tuple #[.int .i64 (leastS o i0 lo hi), .int .i64 (-(leastS i0 o lo hi))]) ∧ Below w.heap.size w w' := by
  obtain ⟨N, hN⟩ : ∃ N, (gsOf (o ++ i0)).length = N := ⟨_, rfl⟩
  obtain ⟨m1, m2⟩ := gs_mem ho hi'
  have hN20 : N ≤ 20 := by rw [← hN]; exact gsOf_length _
  have e1 : vL o i0 (gsOf (o ++ i0)) (brkM (-1) o i0 lo hi) = leastS o i0 lo hi := leastS_vL (gsOf_nodup _) m1 m2
  have e2 : vL i0 o (gsOf (o ++ i0)) (brkM 1 o i0 lo hi) = leastS i0 o lo hi := by
    rw [gsOf_comm]
    rw [gsOf_comm] at m1 m2
    exact leastS_vL (gsOf_nodup _) m2 m1
  have HMD := Lib.hid (fun wx (hb : Below w.heap.size w wx) => And.intro (hA.below hb) (hA'.below hb))
  have CA := Lib.hid (fun wx (hb : Below w.heap.size w wx) => rcorner_any (nm := nm) (sn := sn) (c := c) (c' := c') (le := le) (mo := mo) (side := -1) (.inl rfl) ho hi' hn hN l0 l1 h0 h1 wx (HMD.out wx hb).1 (HMD.out wx hb).2)
  have CB := Lib.hid (fun wx (hb : Below w.heap.size w wx) => rcorner_any (nm := nm) (sn := sn) (c := c) (c' := c') (le := le) (mo := mo) (side := 1) (.inr rfl) ho hi' hn hN l0 l1 h0 h1 wx (HMD.out wx hb).1 (HMD.out wx hb).2)
  have LA := Lib.hid (fun wx (M : Option Addr) c2 (hb : Below w.heap.size w wx) (hM : IntsAt wx M (brkM (-1) o i0 lo hi)) => rleast_any (nm := nm) (c := c) (c' := c') (c2 := c2) (le := le) (mo := mo) ho hi' hn hN (by rw [brkM_len, hN]) (brkM_bd l0 l1 h0 h1) wx (HMD.out wx hb).1 (HMD.out wx hb).2 hM)
  have LB := Lib.hid (fun wx (M : Option Addr) c2 (hb : Below w.heap.size w wx) (hM : IntsAt wx M (brkM 1 o i0 lo hi)) => rgreatest_any (nm := nm) (c := c) (c' := c') (c2 := c2) (le := le) (mo := mo) ho hi' hn hN (by rw [brkM_len, hN]) (brkM_bd l0 l1 h0 h1) wx (HMD.out wx hb).1 (HMD.out wx hb).2 hM)
  rw [e1] at LA
  rw [e2] at LB
  have HLA := Lib.hid (brkM_len (-1) o i0 lo hi)
  have HLB := Lib.hid (brkM_len 1 o i0 lo hi)
  rw [hN] at HLA HLB
  clear hA hA' ho hi' m1 m2 e1 e2 HMD hN
  obtain ⟨u, hu⟩ : ∃ u, leastS o i0 lo hi = u := ⟨_, rfl⟩
  obtain ⟨v, hv⟩ : ∃ v, leastS i0 o lo hi = v := ⟨_, rfl⟩
  obtain ⟨ma, hma⟩ : ∃ ma, brkM (-1) o i0 lo hi = ma := ⟨_, rfl⟩
  obtain ⟨mb, hmb⟩ : ∃ mb, brkM 1 o i0 lo hi = mb := ⟨_, rfl⟩
  simp only [hu, hma] at CA LA HLA ⊢
  simp only [hv, hmb] at CB LB HLB ⊢
  clear hu hv hma hmb
  have hB0 : Below w.heap.size w ((w.alloc (.cells #[.string nm, .slice A n c, .slice A' n' c', .int .i64 le, .int .i64 mo] 24)).alloc (.cells #[.string sn, .int .i64 lo, .int .i64 hi] 27)) := ((Below.refl _ _).alloc (Nat.le_refl _) _).alloc (by simp) _
  have hq : ∀ j (hj : j < 5), ((w.alloc (.cells #[.string nm, .slice A n c, .slice A' n' c', .int .i64 le, .int .i64 mo] 24)).alloc (.cells #[.string sn, .int .i64 lo, .int .i64 hi] 27)).cell? ⟨w.heap.size, j, none⟩ = #[Value.string nm, .slice A n c, .slice A' n' c', .int .i64 le, .int .i64 mo][j]? := by
    intro j hj; simp [go_sem]
  have hqs : ∀ j (hj : j < 3), ((w.alloc (.cells #[.string nm, .slice A n c, .slice A' n' c', .int .i64 le, .int .i64 mo] 24)).alloc (.cells #[.string sn, .int .i64 lo, .int .i64 hi] 27)).cell? ⟨w.heap.size + 1, j, none⟩ = #[Value.string sn, .int .i64 lo, .int .i64 hi][j]? := by
    intro j hj; simp [go_sem]
  have hs0 : ((w.alloc (.cells #[.string nm, .slice A n c, .slice A' n' c', .int .i64 le, .int .i64 mo] 24)).alloc (.cells #[.string sn, .int .i64 lo, .int .i64 hi] 27)).heap.size = w.heap.size + 2 := by simp
  unfold ftV at CA CB LA LB ⊢
  go_enter Tryz.func17, Tryz.ntmps17
  go_upto_region 1 with fail
  generalize ((w.alloc (.cells #[.string nm, .slice A n c, .slice A' n' c', .int .i64 le, .int .i64 mo] 24)).alloc (.cells #[.string sn, .int .i64 lo, .int .i64 hi] 27)) = W0 at hB0 hq hqs hs0 ⊢
  have HB0 := Lib.hid hB0
  have LW := Lib.hid (fun wx (hb : Below W0.heap.size W0 wx) => (show Below w.heap.size w wx from HB0.out.trans (hb.mono HB0.out.size)))
  have KS := Lib.hid (fun wx (hb : Below W0.heap.size W0 wx) => (show Below W0.heap.size W0 wx ∧ wx.cell? ⟨w.heap.size, 0, none⟩ = some (.string nm) ∧ wx.cell? ⟨w.heap.size, 0 + 1, none⟩ = some (.slice A n c) ∧ wx.cell? ⟨w.heap.size, 0 + 2, none⟩ = some (.slice A' n' c') ∧ wx.cell? ⟨w.heap.size, 0 + 3, none⟩ = some (.int .i64 le) ∧ wx.cell? ⟨w.heap.size, 0 + 4, none⟩ = some (.int .i64 mo) ∧ wx.cell? ⟨w.heap.size + 1, 0, none⟩ = some (.string sn) ∧ wx.cell? ⟨w.heap.size + 1, 0 + 1, none⟩ = some (.int .i64 lo) ∧ wx.cell? ⟨w.heap.size + 1, 0 + 2, none⟩ = some (.int .i64 hi) from by
    have k := (bcell hb).1
    exact ⟨hb, (k _ _ (by omega)).trans (hq 0 (by omega)), (k _ _ (by omega)).trans (hq 1 (by omega)), (k _ _ (by omega)).trans (hq 2 (by omega)), (k _ _ (by omega)).trans (hq 3 (by omega)), (k _ _ (by omega)).trans (hq 4 (by omega)), (k _ _ (by omega)).trans (hqs 0 (by omega)), (k _ _ (by omega)).trans (hqs 1 (by omega)), (k _ _ (by omega)).trans (hqs 2 (by omega))⟩))
  clear hq hqs hs0 hB0
  go_region_held3 (fun wx => Below W0.heap.size W0 wx ∧ wx.cell? ⟨w.heap.size, 0, none⟩ = some (.string nm) ∧ wx.cell? ⟨w.heap.size, 0 + 1, none⟩ = some (.slice A n c) ∧ wx.cell? ⟨w.heap.size, 0 + 2, none⟩ = some (.slice A' n' c') ∧ wx.cell? ⟨w.heap.size, 0 + 3, none⟩ = some (.int .i64 le) ∧ wx.cell? ⟨w.heap.size, 0 + 4, none⟩ = some (.int .i64 mo) ∧ wx.cell? ⟨w.heap.size + 1, 0, none⟩ = some (.string sn) ∧ wx.cell? ⟨w.heap.size + 1, 0 + 1, none⟩ = some (.int .i64 lo) ∧ wx.cell? ⟨w.heap.size + 1, 0 + 2, none⟩ = some (.int .i64 hi)) (first | assumption | (exact KS.out _ (Below.refl _ _).drew) | (exact KS.out _ (Below.trans (And.left (by assumption)) (Below.mono hbx (Below.size (And.left (by assumption))))))) (first | (go_at_call 62; with_reducible refine Calls.mono (CA.out _ (LW.out _ (And.left (by assumption)))) ?_; rintro e wa ⟨ga, capa, rfl, howa, hbx⟩; obtain ⟨A1, c1, ea, hia, -⟩ := own_ints howa HLA.out.symm; injection ea with ea1 ea2 ea3; subst ea1) | (go_at_call 21; refine Calls.mono (LA.out _ _ _ (LW.out _ (And.left (by assumption))) hia) ?_; rintro e wb ⟨rfl, hbx⟩) | (go_at_call 62; refine Calls.mono (CB.out _ (LW.out _ (And.left (by assumption)))) ?_; rintro e wc ⟨gb, capb, rfl, howb, hbx⟩; obtain ⟨A2, c2, eb, hib, -⟩ := own_ints howb HLB.out.symm; injection eb with eb1 eb2 eb3; subst eb1) | (go_at_call 22; refine Calls.mono (LB.out _ _ _ (LW.out _ (And.left (by assumption))) hib) ?_; rintro e wd ⟨rfl, hbx⟩))
  all_goals
    have HBX := Lib.hid (And.left (by assumption) : Below W0.heap.size W0 wd)
    go_wp2
    go_ret2
    exact ⟨rfl, LW.out _ HBX.out⟩
end Go.Proofs.YtcjhodlimpgegaaGreat
