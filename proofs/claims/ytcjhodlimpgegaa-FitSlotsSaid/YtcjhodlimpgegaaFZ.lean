/- Walks over the fits: the law of slots. -/
import Derived.Test.YtcjhodlimpgegaaFY
import Derived.Test.YtcjhodlimpgegaaFV
namespace Go.Proofs.Ytcjhodlimpgegaa
open Go.RowKit Go.Maps

set_option maxHeartbeats 2000000 in
set_option maxRecDepth 20000 in
/-- A slot that is refused. -/
theorem fitSlots_bad {p : Md} {screw c : Int} {S : Option Addr} {m d : Nat} {l : List Sn} (hc : slotCode p screw l = c) (h0 : c ≠ 0) (hb : snBound l = true) (hmm : m ≤ maxLen) (w : World) (hS : SnRow w S m l) :
    Calls Try.prog 5 #[mdV p, .int .i64 screw, .slice S m d] w fun e w' => e = .returned (.bool true) ∧ Below w.heap.size w w' := by
  have HN : slotN p screw l = 0 := by unfold slotN; rw [hc, decide_eq_false h0]; rfl
  have HS := Lib.hid (fun wx (hb : Below w.heap.size w wx) => hS.below hb)
  have SB := Lib.hid (fun wx (hx : Below w.heap.size w wx) => seasons_law (d := d) hb hmm wx (HS.out wx hx))
  have SL := Lib.hid (fun wx (hx : Below w.heap.size w wx) => slot_any (d := d) hc hmm wx (HS.out wx hx))
  have RS := Lib.hid (fun cc (h : snsCode l = cc) wx (hx : Below w.heap.size w wx) => rseasons_any (d := d) h hmm wx (HS.out wx hx))
  simp only [HN] at SL
  have hcb : (c == 0) = false := beq_eq_false_iff_ne.2 h0
  have hcb' : (c != 0) = true := bne_iff_ne.2 h0
  clear hS hb HN
  unfold slotCode at hc
  have hB1 : Hid (∀ o, Below w.heap.size w (w.alloc o)) := Lib.hid (fun o => (Below.refl _ _).alloc (Nat.le_refl _) _)
  cases hp : madeB p
  · rw [hp] at hc
    simp only [cond_false] at hc
    subst hc
    have CM := fun wx => Lib.hid (rmade_any (x := p) (c := 2) (w := wx) (by unfold madeCode; rw [hp]; rfl))
    clear hp RS
    obtain ⟨ps, pr, pm, pg, plo, phi⟩ := p
    unfold mdV at CM SL ⊢
    simp only at CM SL ⊢
    go_enter Try.func5, Try.ntmps5
    go_wp2_with (first | (go_at_call 8; refine Calls.mono (awake_any _) ?_; rintro e w1 ⟨rfl, hb1⟩; have hB1' := (hB1.out _).trans (hb1.mono (by simp)); obtain ⟨hc1, hf1⟩ := bcell hb1) | (go_at_call 10; refine Calls.mono (SB.out _ hB1') ?_; rintro e w2 ⟨rfl, rfl⟩) | (go_at_call 29; refine Calls.mono (SL.out _ hB1') ?_; rintro e w3 ⟨rfl, hb3⟩; have hB3 := hB1'.trans (hb3.mono hB1'.size); have hP3 := hb1.trans (hb3.mono hb1.size); obtain ⟨hc3, hf3⟩ := bcell hP3) | (go_at_call 22; refine Calls.mono (CM _).out ?_; rintro e w4 ⟨rfl, hb4⟩; have hB4 := hB3.trans (hb4.mono hB3.size)))
    go_ret
    exact ⟨rfl, hB4⟩
  · rw [hp] at hc
    simp only [cond_true] at hc
    have CM := fun wx => Lib.hid (rmade_any (x := p) (c := 0) (w := wx) (by unfold madeCode; rw [hp]; rfl))
    clear hp
    obtain ⟨ps, pr, pm, pg, plo, phi⟩ := p
    unfold mdV at CM SL ⊢
    simp only at CM SL ⊢
    cases hs : allIn 1 10000 [screw]
    · rw [hs] at hc
      simp only [cond_false] at hc
      subst hc
      have X := Lib.hid hs
      clear hs RS
      go_enter Try.func5, Try.ntmps5
      go_wp2_with (first | (go_at_call 8; refine Calls.mono (awake_any _) ?_; rintro e w1 ⟨rfl, hb1⟩; have hB1' := (hB1.out _).trans (hb1.mono (by simp)); obtain ⟨hc1, hf1⟩ := bcell hb1) | (go_at_call 10; refine Calls.mono (SB.out _ hB1') ?_; rintro e w2 ⟨rfl, rfl⟩) | (go_at_call 29; refine Calls.mono (SL.out _ hB1') ?_; rintro e w3 ⟨rfl, hb3⟩; have hB3 := hB1'.trans (hb3.mono hB1'.size); have hP3 := hb1.trans (hb3.mono hb1.size); obtain ⟨hc3, hf3⟩ := bcell hP3) | (go_at_call 22; refine Calls.mono (CM _).out ?_; rintro e w4 ⟨rfl, hb4⟩; have hB4 := hB3.trans (hb4.mono hB3.size)) | (go_at_call 30; (with_reducible refine (rwithin_any X.out _).mono ?_); rintro e w5 ⟨rfl, rfl⟩))
      go_ret
      exact ⟨rfl, hB4⟩
    · rw [hs] at hc
      simp only [cond_true] at hc
      have X := Lib.hid hs
      have RC := Lib.hid (RS.out c hc)
      clear hs RS hc
      go_enter Try.func5, Try.ntmps5
      go_wp2_with (first | (go_at_call 8; refine Calls.mono (awake_any _) ?_; rintro e w1 ⟨rfl, hb1⟩; have hB1' := (hB1.out _).trans (hb1.mono (by simp)); obtain ⟨hc1, hf1⟩ := bcell hb1) | (go_at_call 10; refine Calls.mono (SB.out _ hB1') ?_; rintro e w2 ⟨rfl, rfl⟩) | (go_at_call 29; refine Calls.mono (SL.out _ hB1') ?_; rintro e w3 ⟨rfl, hb3⟩; have hB3 := hB1'.trans (hb3.mono hB1'.size); have hP3 := hb1.trans (hb3.mono hb1.size); obtain ⟨hc3, hf3⟩ := bcell hP3) | (go_at_call 22; refine Calls.mono (CM _).out ?_; rintro e w4 ⟨rfl, hb4⟩; have hB4 := hB3.trans (hb4.mono hB3.size)) | (go_at_call 30; (with_reducible refine (rwithin_any X.out _).mono ?_); rintro e w5 ⟨rfl, rfl⟩) | (go_at_call 14; refine Calls.mono (RC.out _ hB4) ?_; rintro e w6 ⟨rfl, hb6⟩; have hB6 := hB4.trans (hb6.mono hB4.size)))
      go_ret
      exact ⟨rfl, hB6⟩
set_option maxHeartbeats 4000000 in
set_option maxRecDepth 20000 in
/-- A slot that is told. -/
theorem fitSlots_good {p : Md} {screw : Int} {S : Option Addr} {m d : Nat} {l : List Sn} (hc : slotCode p screw l = 0) (hb : snBound l = true) (hmm : m ≤ maxLen) (hmd : m ≤ d) (w : World) (hS : SnRow w S m l) :
    Calls Try.prog 5 #[mdV p, .int .i64 screw, .slice S m d] w fun e w' => e = .returned (.bool true) ∧ Below w.heap.size w w' := by
  obtain ⟨hp, hs, hl⟩ := slotCode_zero hc
  have HN : slotN p screw l = slotS p screw l := by unfold slotN; rw [hc]; rfl
  have hln := hS.1
  have hm30 := snBound_len hb
  have HS := Lib.hid (fun wx (hb : Below w.heap.size w wx) => hS.below hb)
  have SB := Lib.hid (fun wx (hx : Below w.heap.size w wx) => seasons_law (d := d) hb hmm wx (HS.out wx hx))
  have SL := Lib.hid (fun wx (hx : Below w.heap.size w wx) => slot_any (d := d) hc hmm wx (HS.out wx hx))
  have RC := Lib.hid (fun wx (hx : Below w.heap.size w wx) => rseasons_any (d := d) hl hmm wx (HS.out wx hx))
  have SM := Lib.hid (fun wx (hx : Below w.heap.size w wx) => slotMove_any (screw := screw) (d := d) hp hl wx (HS.out wx hx))
  have CM := fun wx => Lib.hid (rmade_any (w := wx) (madeCode_ok hp))
  have X := Lib.hid hs
  have s1 := allIn_one.1 hs
  have bd := slotS_bd hp screw (snsCode_ok hl).2
  have HOK := Lib.hid (snsCode_ok hl).2
  have HL := Lib.hid hl
  have HP := Lib.hid hp
  have HSR := Lib.hid hS
  simp only [HN] at SL
  clear hc hs hl hb HN hS
  obtain ⟨N, hN⟩ : ∃ N, slotS p screw l = N := ⟨_, rfl⟩
  simp only [hN] at SL SM bd
  have hw1 : wrap64 (screw + (N - screw)) = N := by rw [w64 (by omega)]; omega
  have hw2 : IntKind.i64.wrap (screw + (N - screw)) = N := by rw [IntKind.wrap_i64]; omega
  have hB1 : Hid (∀ o, Below w.heap.size w (w.alloc o)) := Lib.hid (fun o => (Below.refl _ _).alloc (Nat.le_refl _) _)
  by_cases hm0 : m = 0
  · subst hm0
    clear hN hp HOK HL HP HSR
    obtain ⟨ps, pr, pm, pg, plo, phi⟩ := p
    unfold mdV at CM SL SM ⊢
    simp only at CM SL SM ⊢
    go_enter Try.func5, Try.ntmps5
    go_wp2_with (first | (go_at_call 8; refine Calls.mono (awake_any _) ?_; rintro e w1 ⟨rfl, hb1⟩; have hB1' := (hB1.out _).trans (hb1.mono (by simp)); obtain ⟨hc1, hf1⟩ := bcell hb1) | (go_at_call 10; refine Calls.mono (SB.out _ hB1') ?_; rintro e w2 ⟨rfl, rfl⟩) | (go_at_call 29; refine Calls.mono (SL.out _ hB1') ?_; rintro e w3 ⟨rfl, hb3⟩; have hB3 := hB1'.trans (hb3.mono hB1'.size); have hP3 := hb1.trans (hb3.mono hb1.size); obtain ⟨hc3, hf3⟩ := bcell hP3) | (go_at_call 22; refine Calls.mono (CM _).out ?_; rintro e w4 ⟨rfl, hb4⟩; have hB4 := hB3.trans (hb4.mono hB3.size); have hP4 := hP3.trans (hb4.mono hP3.size)) | (go_at_call 30; (with_reducible refine (rwithin_any X.out _).mono ?_); rintro e w5 ⟨rfl, rfl⟩) | (go_at_call 14; refine Calls.mono (RC.out _ hB4) ?_; rintro e w6 ⟨rfl, hb6⟩; have hB6 := hB4.trans (hb6.mono hB4.size); have hP6 := hP4.trans (hb6.mono hP4.size); obtain ⟨hc6, hf6⟩ := bcell hP6) | (go_at_call 31; refine Calls.mono (SM.out _ hB6) ?_; rintro e w7 ⟨rfl, hb7⟩; have hB7 := hB6.trans (hb7.mono hB6.size)))
    go_ret
    exact ⟨rfl, hB7⟩
  · obtain ⟨blk, off, rfl, hblk, hx⟩ := HSR.out.2 (by omega)
    cases l with
    | nil => simp at hln; omega
    | cons s r =>
      have hln' : r.length = m - 1 := by simp at hln; omega
      have gr := slotS_grow hp screw HOK.out
      rw [hN] at gr
      have hcr : slotCode p screw r = 0 := by unfold slotCode; rw [madeB_iff.2 hp, X.out]; exact snsCode_tail HL.out
      have HNr : slotN p screw r = slotS p screw r := by unfold slotN; rw [hcr]; rfl
      have HR : Hid (∃ S', (∀ t, S' = t → True) ∧ True) := Lib.hid ⟨0, fun _ _ => trivial, trivial⟩
      have ST := Lib.hid (fun wx (hx : Below w.heap.size w wx) => slot_any (d := d - 1) hcr (by omega : m - 1 ≤ maxLen) wx (RowOf.tail (HS.out wx hx)))
      have ST0 := Lib.hid (fun wx (h1 : m - 1 = 0) => slot_any (S := some ⟨blk, off, none⟩) (m := 0) (d := 0) hcr (Nat.zero_le _) wx ⟨by omega, fun h => absurd h (by omega)⟩)
      simp only [HNr] at ST ST0
      obtain ⟨K, hK⟩ : ∃ K, slotS p screw r = K := ⟨_, rfl⟩
      simp only [hK] at ST ST0 gr
      clear hN hp HOK HL HP HSR hcr HNr hK HR hx
      obtain ⟨ps, pr, pm, pg, plo, phi⟩ := p
      unfold mdV at CM SL SM ST ST0 ⊢
      simp only at CM SL SM ST ST0 ⊢
      have hmp : (0 : Int) < (m : Int) := by omega
      have hme : ((m : Int) == 0) = false := by simp; omega
      have h1n : decide ((1 : Int) ≤ m) = true := decide_eq_true (by omega)
      have hnc : decide ((m : Int) ≤ d) = true := decide_eq_true (by omega)
      have hlt1 : ¬ (m : Int) < 1 := by omega
      have hlt2 : decide ((m : Int) < 1) = false := decide_eq_false hlt1
      go_enter Try.func5, Try.ntmps5
      go_upto_region 17 with (first | (go_at_call 8; refine Calls.mono (awake_any _) ?_; rintro e w1 ⟨rfl, hb1⟩; have hB1' := (hB1.out _).trans (hb1.mono (by simp)); obtain ⟨hc1, hf1⟩ := bcell hb1) | (go_at_call 10; refine Calls.mono (SB.out _ hB1') ?_; rintro e w2 ⟨rfl, rfl⟩) | (go_at_call 29; refine Calls.mono (SL.out _ hB1') ?_; rintro e w3 ⟨rfl, hb3⟩; have hB3 := hB1'.trans (hb3.mono hB1'.size); have hP3 := hb1.trans (hb3.mono hb1.size); obtain ⟨hc3, hf3⟩ := bcell hP3) | (go_at_call 22; refine Calls.mono (CM _).out ?_; rintro e w4 ⟨rfl, hb4⟩; have hB4 := hB3.trans (hb4.mono hB3.size); have hP4 := hP3.trans (hb4.mono hP3.size)) | (go_at_call 30; (with_reducible refine (rwithin_any X.out _).mono ?_); rintro e w5 ⟨rfl, rfl⟩) | (go_at_call 14; refine Calls.mono (RC.out _ hB4) ?_; rintro e w6 ⟨rfl, hb6⟩; have hB6 := hB4.trans (hb6.mono hB4.size); have hP6 := hP4.trans (hb6.mono hP4.size); obtain ⟨hc6, hf6⟩ := bcell hP6) | (go_at_call 31; refine Calls.mono (SM.out _ hB6) ?_; rintro e w7 ⟨rfl, hb7⟩; have hB7 := hB6.trans (hb7.mono hB6.size); have hP7 := hP6.trans (hb7.mono hP6.size)))
      have d0 : w7.cell? ⟨w.heap.size, 0, none⟩ = some (.int .i64 ps) := ((bcell hP7).1 _ _ (by simp)).trans (by rw [World.cell?_alloc_new]; rfl)
      have d1 : w7.cell? ⟨w.heap.size, 0 + 1, none⟩ = some (.int .i64 pr) := ((bcell hP7).1 _ _ (by simp)).trans (by rw [World.cell?_alloc_new]; rfl)
      have d2 : w7.cell? ⟨w.heap.size, 0 + 2, none⟩ = some (.int .i64 pm) := ((bcell hP7).1 _ _ (by simp)).trans (by rw [World.cell?_alloc_new]; rfl)
      have d3 : w7.cell? ⟨w.heap.size, 0 + 3, none⟩ = some (.int .i64 pg) := ((bcell hP7).1 _ _ (by simp)).trans (by rw [World.cell?_alloc_new]; rfl)
      have d4 : w7.cell? ⟨w.heap.size, 0 + 4, none⟩ = some (.int .i64 plo) := ((bcell hP7).1 _ _ (by simp)).trans (by rw [World.cell?_alloc_new]; rfl)
      have d5 : w7.cell? ⟨w.heap.size, 0 + 5, none⟩ = some (.int .i64 phi) := ((bcell hP7).1 _ _ (by simp)).trans (by rw [World.cell?_alloc_new]; rfl)
      have HB7 := Lib.hid hB7
      have HKC := Lib.hid (fun wx (hb : Below w7.heap.size w7 wx) => (show wx.cell? ⟨w.heap.size, 0, none⟩ = some (.int .i64 ps) ∧ wx.cell? ⟨w.heap.size, 0 + 1, none⟩ = some (.int .i64 pr) ∧ wx.cell? ⟨w.heap.size, 0 + 2, none⟩ = some (.int .i64 pm) ∧ wx.cell? ⟨w.heap.size, 0 + 3, none⟩ = some (.int .i64 pg) ∧ wx.cell? ⟨w.heap.size, 0 + 4, none⟩ = some (.int .i64 plo) ∧ wx.cell? ⟨w.heap.size, 0 + 5, none⟩ = some (.int .i64 phi) from by
        have k := (bcell hb).1
        have hz := World.block_lt_of_cell? w7 _ d0
        exact ⟨(k _ _ hz).trans d0, (k _ _ hz).trans d1, (k _ _ hz).trans d2, (k _ _ hz).trans d3, (k _ _ hz).trans d4, (k _ _ hz).trans d5⟩))
      clear hb1 hb3 hb4 hb6 hb7 hB1' hB3 hB4 hB6 hB7 hP3 hP4 hP6 hP7 hc1 hf1 hc3 hf3 hc6 hf6 CM SL SM SB RC
      by_cases hd1 : d = 1
      · have hm1 : m = 1 := by omega
        have S0 := fun wx => Lib.hid (ST0.out wx (by omega))
        subst hd1 hm1
        go_region_held3 (fun wx => Below w7.heap.size w7 wx ∧ wx.cell? ⟨w.heap.size, 0, none⟩ = some (.int .i64 ps) ∧ wx.cell? ⟨w.heap.size, 0 + 1, none⟩ = some (.int .i64 pr) ∧ wx.cell? ⟨w.heap.size, 0 + 2, none⟩ = some (.int .i64 pm) ∧ wx.cell? ⟨w.heap.size, 0 + 3, none⟩ = some (.int .i64 pg) ∧ wx.cell? ⟨w.heap.size, 0 + 4, none⟩ = some (.int .i64 plo) ∧ wx.cell? ⟨w.heap.size, 0 + 5, none⟩ = some (.int .i64 phi)) (first | assumption | (exact ⟨(Below.refl _ _).drew, HKC.out _ (Below.refl _ _).drew⟩) | (exact ⟨hb9, HKC.out _ hb9⟩)) (first | (go_at_call 29; refine Calls.mono (S0 _).out ?_; rintro e w8 ⟨rfl, hb8⟩; have hb9 := (And.left (by assumption) : Below w7.heap.size w7 _).trans (hb8.mono (Below.size (And.left (by assumption))))))
        all_goals
          go_wp2
          go_ret
          exact ⟨rfl, HB7.out.trans (hb9.mono HB7.out.size)⟩
      · have hdd : ¬ d = 1 := hd1
        have ST1 := Lib.hid (fun wx (hx : Below w7.heap.size w7 wx) => ST.out wx (HB7.out.trans (hx.mono HB7.out.size)))
        go_region_held3 (fun wx => Below w7.heap.size w7 wx ∧ wx.cell? ⟨w.heap.size, 0, none⟩ = some (.int .i64 ps) ∧ wx.cell? ⟨w.heap.size, 0 + 1, none⟩ = some (.int .i64 pr) ∧ wx.cell? ⟨w.heap.size, 0 + 2, none⟩ = some (.int .i64 pm) ∧ wx.cell? ⟨w.heap.size, 0 + 3, none⟩ = some (.int .i64 pg) ∧ wx.cell? ⟨w.heap.size, 0 + 4, none⟩ = some (.int .i64 plo) ∧ wx.cell? ⟨w.heap.size, 0 + 5, none⟩ = some (.int .i64 phi)) (first | assumption | (exact ⟨(Below.refl _ _).drew, HKC.out _ (Below.refl _ _).drew⟩) | (exact ⟨hb9, HKC.out _ hb9⟩)) (first | (go_at_call 29; refine Calls.mono (ST1.out _ (And.left (by assumption))) ?_; rintro e w8 ⟨rfl, hb8⟩; have hb9 := (And.left (by assumption) : Below w7.heap.size w7 _).trans (hb8.mono (Below.size (And.left (by assumption))))))
        all_goals
          go_wp2
          go_ret
          exact ⟨rfl, HB7.out.trans (hb9.mono HB7.out.size)⟩
set_option maxHeartbeats 1000000 in
theorem fitSlots_out {p : Md} {screw : Int} {S : Option Addr} {m d : Nat} {l : List Sn} (hb : snBound l = false) (hmm : m ≤ maxLen) (w : World) (hS : SnRow w S m l) :
    Calls Try.prog 5 #[mdV p, .int .i64 screw, .slice S m d] w fun e w' => e = .returned (.bool true) ∧ Below w.heap.size w w' := by
  have HS := Lib.hid (fun wx (hb : Below w.heap.size w wx) => hS.below hb)
  have SB := Lib.hid (fun wx (hx : Below w.heap.size w wx) => seasons_law (d := d) hb hmm wx (HS.out wx hx))
  have hB1 : Hid (∀ o, Below w.heap.size w (w.alloc o)) := Lib.hid (fun o => (Below.refl _ _).alloc (Nat.le_refl _) _)
  clear hS hb
  unfold mdV
  go_enter Try.func5, Try.ntmps5
  go_wp2_with (first | (go_at_call 8; refine Calls.mono (awake_any _) ?_; rintro e w1 ⟨rfl, hb1⟩; have hB1' := (hB1.out _).trans (hb1.mono (by simp)); obtain ⟨hc1, hf1⟩ := bcell hb1) | (go_at_call 10; refine Calls.mono (SB.out _ hB1') ?_; rintro e w2 ⟨rfl, rfl⟩))
  go_ret
  exact ⟨rfl, hB1'⟩
theorem fitSlots_law (p : Md) (screw : Int) (S : Option Addr) (m d : Nat) (l : List Sn) (hm : m ≤ maxLen ∧ m ≤ d) (w : World) (hS : SnRow w S m l) :
    Calls Try.prog 5 #[mdV p, .int .i64 screw, .slice S m d] w fun e w' => e = .returned (.bool true) ∧ Below w.heap.size w w' := by
  cases hb : snBound l
  · exact fitSlots_out hb hm.1 w hS
  · by_cases h0 : slotCode p screw l = 0
    · exact fitSlots_good h0 hb hm.1 hm.2 w hS
    · exact fitSlots_bad rfl h0 hb hm.1 w hS
end Go.Proofs.Ytcjhodlimpgegaa
