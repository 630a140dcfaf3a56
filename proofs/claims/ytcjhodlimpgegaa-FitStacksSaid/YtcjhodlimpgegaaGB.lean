/- Walks over the fits: the check of a fit, the reference's, the law's bounds. -/
import Derived.Test.YtcjhodlimpgegaaGA
import Derived.Test.YtcjhodlimpgegaaFW
namespace Go.Proofs.Ytcjhodlimpgegaa
open Go.RowKit Go.Maps

def fitCode (nm : ByteArray) (F : FitD) : Int := bif nameB nm then (bif decide (madesCode (F.o ++ F.i) = 0) then (bif allIn (-600000) 600000 [F.le, F.mo] then (bif decide (F.mo < F.le) then 9 else 0) else 2) else madesCode (F.o ++ F.i)) else 4
theorem fitCode_ok {nm : ByteArray} {F : FitD} (h : fitCode nm F = 0) : FdOk F ∧ F.le ≤ F.mo ∧ nameB nm = true := by
  unfold fitCode at h
  cases hn : nameB nm
  · rw [hn] at h; exact absurd h (by simp)
  · rw [hn] at h
    simp only [cond_true] at h
    by_cases hm : madesCode (F.o ++ F.i) = 0
    · rw [decide_eq_true hm] at h
      simp only [cond_true] at h
      cases hi : allIn (-600000) 600000 [F.le, F.mo]
      · rw [hi] at h; exact absurd h (by simp)
      · rw [hi] at h
        simp only [cond_true] at h
        cases hc : decide (F.mo < F.le)
        · obtain ⟨h1, h2⟩ := madesCode_ok hm
          have b1 := allIn_iff.1 hi F.le (by simp)
          have b2 := allIn_iff.1 hi F.mo (by simp)
          have := of_decide_eq_false hc
          rw [List.length_append] at h1
          exact ⟨⟨fun x hx => h2 x (List.mem_append_left _ hx), fun x hx => h2 x (List.mem_append_right _ hx), h1, b1, b2⟩, by omega, rfl⟩
        · rw [hc] at h; exact absurd h (by simp)
    · rw [decide_eq_false hm] at h; exact absurd h hm
theorem fit2 {A B : Option Addr} {n c n' c' : Nat} {o i : List Md} (w : World) (e : TypeId) (hA : MdRow w A n o) (hB : MdRow w B n' i) (hn : n ≤ 1000000) (hn' : n' ≤ 1000000) {lb : Nat} (hlb : lb = w.heap.size) (lc : Nat) :
    Calls Try.prog 53 #[.int .i64 20, .func (.func 23) #[] #[], .slice (some ⟨lb, 0, none⟩) 2 lc] (w.alloc (.cells #[.slice A n c, .slice B n' c'] e))
      fun e w' => e = .returned (.int .i64 (madesCode (o ++ i))) ∧ Below w.heap.size w w' := by
  subst hlb
  have hb0 : Below w.heap.size w (w.alloc (.cells #[.slice A n c, .slice B n' c'] e)) := (Below.refl _ _).alloc (Nat.le_refl _) _
  refine (checkListsM_any (q := 2) (A := fun | 0 => A | _ => B) (n := fun | 0 => n | _ => n') (c := fun | 0 => c | _ => c') (X := fun | 0 => o | _ => i) (by omega) _ ?_ ?_ ?_).mono fun e' w' ⟨he, hw⟩ => ⟨?_, hb0.trans (hw.mono (by simp))⟩
  · intro k hk
    rw [World.cell?_alloc_new]
    match k, hk with
    | 0, _ => rfl
    | 1, _ => rfl
  · intro k hk
    match k, hk with
    | 0, _ => exact hA.below hb0
    | 1, _ => exact hB.below hb0
  · intro k hk
    match k, hk with
    | 0, _ => exact hn
    | 1, _ => exact hn'
  · rw [he]; simp [catN]
set_option maxHeartbeats 2000000 in
theorem checkFit_any {nm : ByteArray} {A A' : Option Addr} {n c n' c' : Nat} {F : FitD} {cd : Int} (hc : fitCode nm F = cd) (hsz : nm.size ≤ maxLen) (hn : n ≤ 1000000) (hn' : n' ≤ 1000000) (w : World) (hA : MdRow w A n F.o) (hA' : MdRow w A' n' F.i) :
    Calls Try.prog 17 #[ftV nm A n c A' n' c' F.le F.mo] w fun e w' => e = .returned (.int .i64 cd) ∧ Below w.heap.size w w' := by
  obtain ⟨le, mo, o, i⟩ := F
  unfold fitCode at hc
  unfold ftV
  simp only at hc hA hA' ⊢
  have HMD := Lib.hid (fun wx (hb : Below w.heap.size w wx) => And.intro (hA.below hb) (hA'.below hb))
  clear hA hA'
  have CL := Lib.hid (fun wx (hb : Below w.heap.size w wx) (e : TypeId) lb (hlb : lb = wx.heap.size) => fit2 (c := c) (c' := c') wx e (HMD.out wx hb).1 (HMD.out wx hb).2 hn hn' hlb 2)
  have hB1 : Hid (∀ o, Below w.heap.size w (w.alloc o)) := Lib.hid (fun o => (Below.refl _ _).alloc (Nat.le_refl _) _)
  clear hn hn' HMD
  cases hm : nameB nm
  · have N := fun wx => Lib.hid (isName_any (w := wx) hm hsz)
    rw [hm] at hc; simp only [cond_false] at hc; subst hc
    clear hm
    go_enter Try.func17, Try.ntmps17
    go_wp2_with (go_at_call 52; refine Calls.mono (N _).out ?_; rintro e w1 ⟨rfl, rfl⟩)
    go_ret
    exact ⟨rfl, hB1.out _⟩
  · have N := fun wx => Lib.hid (isName_any (w := wx) hm hsz)
    rw [hm] at hc; simp only [cond_true] at hc
    clear hm
    obtain ⟨mc, hmc⟩ : ∃ mc, madesCode (o ++ i) = mc := ⟨_, rfl⟩
    simp only [hmc] at hc CL
    clear hmc
    by_cases h0 : mc = 0
    · subst h0
      simp only [decide_true, cond_true] at hc
      cases hi' : allIn (-600000) 600000 [le, mo]
      · rw [hi'] at hc; simp only [cond_false] at hc; subst hc
        have X := Lib.hid hi'
        clear hi'
        go_enter Try.func17, Try.ntmps17
        go_wp2_with (first | (go_at_call 52; refine Calls.mono (N _).out ?_; rintro e w1 ⟨rfl, rfl⟩) | (go_at_call 53; refine Calls.mono (CL.out _ (hB1.out _) _ _ (by simp)) ?_; rintro e w2 ⟨rfl, hb2⟩; obtain ⟨hc2, hf2⟩ := bcell hb2) | (go_at_call 54; (with_reducible refine (withinTwo_fit X.out _ _ (by simp)).mono ?_); rintro e w3 ⟨rfl, hb3⟩))
        go_ret
        exact ⟨rfl, ((hB1.out _).trans (hb2.mono (by simp))).trans (hb3.mono (by have := hb2.size; simp at this; omega))⟩
      · rw [hi'] at hc; simp only [cond_true] at hc
        have X := Lib.hid hi'
        clear hi'
        by_cases hlt : mo < le
        all_goals
          (first | rw [decide_eq_true hlt] at hc | rw [decide_eq_false hlt] at hc)
          simp only [cond_true, cond_false] at hc
          subst hc
          go_enter Try.func17, Try.ntmps17
          go_wp2_with (first | (go_at_call 52; refine Calls.mono (N _).out ?_; rintro e w1 ⟨rfl, rfl⟩) | (go_at_call 53; refine Calls.mono (CL.out _ (hB1.out _) _ _ (by simp)) ?_; rintro e w2 ⟨rfl, hb2⟩; obtain ⟨hc2, hf2⟩ := bcell hb2) | (go_at_call 54; (with_reducible refine (withinTwo_fit X.out _ _ (by simp)).mono ?_); rintro e w3 ⟨rfl, hb3⟩; have hsz2 : w.heap.size < w2.heap.size := (by have := hb2.size; simp at this; omega); obtain ⟨hc3, hf3⟩ := bcell hb3))
          go_ret
          exact ⟨rfl, ((hB1.out _).trans (hb2.mono (by simp))).trans (hb3.mono (by have := hb2.size; simp at this; omega))⟩
    · have hcb : (mc == 0) = false := beq_eq_false_iff_ne.2 h0
      have hcb' : (mc != 0) = true := bne_iff_ne.2 h0
      rw [decide_eq_false h0] at hc; simp only [cond_false] at hc; subst hc
      go_enter Try.func17, Try.ntmps17
      go_wp2_with (first | (go_at_call 52; refine Calls.mono (N _).out ?_; rintro e w1 ⟨rfl, rfl⟩) | (go_at_call 53; refine Calls.mono (CL.out _ (hB1.out _) _ _ (by simp)) ?_; rintro e w2 ⟨rfl, hb2⟩))
      go_ret
      exact ⟨rfl, (hB1.out _).trans (hb2.mono (by simp))⟩
set_option maxHeartbeats 2000000 in
theorem rlist_any {A : Option Addr} {n c : Nat} {l : List Md} {v : Bool} (hv : l.all madeB = v) (hn : n ≤ 1000000) (w : World) (hA : MdRow w A n l) :
    Calls Try.prog 51 #[.slice A n c] w fun e w' => e = .returned (.int .i64 (bif v then 0 else 2)) ∧ Below w.heap.size w w' := by
  have hln := hA.1
  have hm' : n ≤ 9223372036854775807 := Nat.le_trans hn (by decide)
  have HR := Lib.hid hA
  have HV := Lib.hid hv
  clear hA hv
  go_enter Try.func51, Try.ntmps51
  go_wp2
  go_loopw [3] (fun i wr => ∃ p : Nat, p ≤ n ∧ i = .int .i64 p ∧ Hid ((l.take p).all madeB = true) ∧ Hid (Below w.heap.size w wr)) (fun i _ => n - (intOf i).toNat)
  case atStart => exact ⟨0, Nat.zero_le _, rfl, Lib.hid rfl, Lib.hid (Below.refl _ _)⟩
  case round =>
    obtain ⟨p, hp, rfl, HP, HBr⟩ := hrel
    by_cases hpl : p < n
    · have hkl : p < l.length := by omega
      obtain ⟨blk, off, rfl, hblk, hx⟩ := HR.out.2 (by omega)
      have hxx := (hx p hkl).below HBr.out hblk
      have HT := Lib.hid (all_take_succ hkl)
      have HN := Lib.hid (fun hb => all_not hkl hb)
      clear hx
      obtain ⟨x, hxe⟩ : ∃ x, l[p] = x := ⟨_, rfl⟩
      rw [hxe] at hxx HT HN
      clear hxe
      have hsw := HBr.out.size
      obtain ⟨b, hb⟩ : ∃ b, madeB x = b := ⟨_, rfl⟩
      cases b with
      | true =>
        have CM := fun wx => Lib.hid (rmade_any (x := x) (c := 0) (w := wx) (by unfold madeCode; rw [hb]; rfl))
        have HT2 : Hid ((l.take (p + 1)).all madeB = true) := Lib.hid (by rw [HT.out, HP.out, hb]; rfl)
        clear hb HN HT
        obtain ⟨s0, r0, m0, g0, l0, h0⟩ := x
        obtain ⟨c0, c1, c2, c3, c4, c5⟩ := hxx
        unfold mdV at CM
        simp only at c0 c1 c2 c3 c4 c5 CM
        go_wp2_with (go_at_call 22; refine Calls.mono (CM _).out ?_; rintro e w2 ⟨rfl, hb2⟩)
        go_roundw
        case rel => exact ⟨p + 1, by omega, by go_num, HT2, Lib.hid (HBr.out.trans (hb2.mono hsw))⟩
        case measure => simp [intOf]; omega
      | false =>
        have CM := fun wx => Lib.hid (rmade_any (x := x) (c := 2) (w := wx) (by unfold madeCode; rw [hb]; rfl))
        have HW : Hid (v = false) := Lib.hid (by rw [← HV.out]; exact HN.out hb)
        clear hb HN HT
        obtain ⟨s0, r0, m0, g0, l0, h0⟩ := x
        obtain ⟨c0, c1, c2, c3, c4, c5⟩ := hxx
        unfold mdV at CM
        simp only at c0 c1 c2 c3 c4 c5 CM
        go_wp2_with (go_at_call 22; refine Calls.mono (CM _).out ?_; rintro e w2 ⟨rfl, hb2⟩)
        go_ret
        exact ⟨by rw [HW.out]; rfl, HBr.out.trans (hb2.mono hsw)⟩
    · have HW : Hid (v = true) := Lib.hid (by rw [← HV.out]; have := HP.out; rwa [List.take_of_length_le (by omega)] at this)
      go_wp2
      go_ret
      exact ⟨by rw [HW.out]; rfl, HBr.out⟩
theorem madesCode_two {o i : List Md} : madesCode (o ++ i) = bif decide (20 < o.length + i.length) then 8 else bif o.all madeB then (bif i.all madeB then 0 else 2) else 2 := by
  unfold madesCode
  rw [List.length_append, List.all_append]
  cases decide (20 < o.length + i.length) <;> cases o.all madeB <;> cases i.all madeB <;> rfl
set_option maxHeartbeats 2000000 in
theorem rfit_any {nm : ByteArray} {A A' : Option Addr} {n c n' c' : Nat} {F : FitD} {cd : Int} (hc : fitCode nm F = cd) (hsz : nm.size ≤ maxLen) (hn : n ≤ 1000000) (hn' : n' ≤ 1000000) (w : World) (hA : MdRow w A n F.o) (hA' : MdRow w A' n' F.i) :
    Calls Try.prog 16 #[ftV nm A n c A' n' c' F.le F.mo] w fun e w' => e = .returned (.int .i64 cd) ∧ Below w.heap.size w w' := by
  obtain ⟨le, mo, o, i⟩ := F
  unfold fitCode at hc
  unfold ftV
  simp only [madesCode_two, allIn_two] at hc hA hA' ⊢
  rw [hA.1, hA'.1] at hc
  have hm1 := hn
  have hm2 := hn'
  have HMD := Lib.hid (fun wx (hb : Below w.heap.size w wx) => And.intro (hA.below hb) (hA'.below hb))
  clear hA hA'
  have CL := fun v (hv : o.all madeB = v) => Lib.hid (fun wx (hb : Below w.heap.size w wx) => rlist_any (c := c) hv hn wx (HMD.out wx hb).1)
  have CL2 := fun v (hv : i.all madeB = v) => Lib.hid (fun wx (hb : Below w.heap.size w wx) => rlist_any (c := c') hv hn' wx (HMD.out wx hb).2)
  have hB1 : Hid (∀ o, Below w.heap.size w (w.alloc o)) := Lib.hid (fun o => (Below.refl _ _).alloc (Nat.le_refl _) _)
  clear hn hn' HMD
  cases hm : nameB nm
  · have N := fun wx => Lib.hid (rname_any (w := wx) hm hsz)
    rw [hm] at hc; simp only [cond_false] at hc; subst hc
    clear hm CL CL2
    go_enter Try.func16, Try.ntmps16
    go_wp2_with (go_at_call 50; refine Calls.mono (N _).out ?_; rintro e w1 ⟨rfl, rfl⟩)
    go_ret
    exact ⟨rfl, hB1.out _⟩
  have N := fun wx => Lib.hid (rname_any (w := wx) hm hsz)
  rw [hm] at hc; simp only [cond_true] at hc
  clear hm
  by_cases h20 : 20 < n + n'
  · rw [decide_eq_true h20] at hc
    simp only [cond_true] at hc
    have hc2 : cd = 8 := by rw [← hc]; rfl
    subst hc2
    clear hc CL CL2
    go_enter Try.func16, Try.ntmps16
    go_wp2_with (go_at_call 50; refine Calls.mono (N _).out ?_; rintro e w1 ⟨rfl, rfl⟩)
    go_ret
    exact ⟨rfl, hB1.out _⟩
  rw [decide_eq_false h20] at hc
  simp only [cond_false] at hc
  cases ho : o.all madeB
  · have L1 := CL _ ho
    rw [ho] at hc
    have hc2 : cd = 2 := by rw [← hc]; rfl
    subst hc2
    clear hc CL CL2 ho
    go_enter Try.func16, Try.ntmps16
    go_wp2_with (first | (go_at_call 50; refine Calls.mono (N _).out ?_; rintro e w1 ⟨rfl, rfl⟩) | (go_at_call 51; refine Calls.mono (L1.out _ (hB1.out _)) ?_; rintro e w2 ⟨rfl, hb2⟩))
    go_ret
    exact ⟨rfl, (hB1.out _).trans (hb2.mono (by simp))⟩
  have L1 := CL _ ho
  rw [ho] at hc
  clear CL ho
  cases hi : i.all madeB
  · have L2 := CL2 _ hi
    rw [hi] at hc
    have hc2 : cd = 2 := by rw [← hc]; rfl
    subst hc2
    clear hc CL2 hi
    simp only [cond_true, cond_false] at L1 L2
    go_enter Try.func16, Try.ntmps16
    go_wp2_with (first | (go_at_call 50; refine Calls.mono (N _).out ?_; rintro e w1 ⟨rfl, rfl⟩) | (go_at_call 51; with_reducible refine Calls.mono (L1.out _ (hB1.out _)) ?_; rintro e w2 ⟨rfl, hb2⟩; have hB2 := (hB1.out _).trans (hb2.mono (by simp)); obtain ⟨hc2, hf2⟩ := bcell hb2) | (go_at_call 51; with_reducible refine Calls.mono (L2.out _ hB2) ?_; rintro e w3 ⟨rfl, hb3⟩; have hB3 := hB2.trans (hb3.mono hB2.size); have hsz2 : w.heap.size < w2.heap.size := (by have := hb2.size; simp at this; omega); obtain ⟨hc3, hf3⟩ := bcell hb3))
    go_ret
    exact ⟨rfl, hB3⟩
  have L2 := CL2 _ hi
  rw [hi] at hc
  simp only [cond_true, decide_true] at L1 L2 hc
  clear CL2 hi
  cases h1 : allIn (-600000) 600000 [le]
  · rw [h1] at hc
    simp only [Bool.false_and, cond_false] at hc
    subst hc
    have X := Lib.hid h1
    clear h1
    go_enter Try.func16, Try.ntmps16
    go_wp2_with (first | (go_at_call 50; refine Calls.mono (N _).out ?_; rintro e w1 ⟨rfl, rfl⟩) | (go_at_call 51; with_reducible refine Calls.mono (L1.out _ (hB1.out _)) ?_; rintro e w2 ⟨rfl, hb2⟩; have hB2 := (hB1.out _).trans (hb2.mono (by simp)); obtain ⟨hc2, hf2⟩ := bcell hb2) | (go_at_call 51; with_reducible refine Calls.mono (L2.out _ hB2) ?_; rintro e w3 ⟨rfl, hb3⟩; have hB3 := hB2.trans (hb3.mono hB2.size); have hsz2 : w.heap.size < w2.heap.size := (by have := hb2.size; simp at this; omega); obtain ⟨hc3, hf3⟩ := bcell hb3) | (go_at_call 30; (with_reducible refine (rwithin_any X.out _).mono ?_); rintro e w4 ⟨rfl, rfl⟩))
    go_ret
    exact ⟨rfl, hB3⟩
  rw [h1] at hc
  simp only [Bool.true_and] at hc
  have X := Lib.hid h1
  clear h1
  cases h2 : allIn (-600000) 600000 [mo]
  · rw [h2] at hc
    simp only [cond_false] at hc
    subst hc
    have Y := Lib.hid h2
    clear h2
    go_enter Try.func16, Try.ntmps16
    go_wp2_with (first | (go_at_call 50; refine Calls.mono (N _).out ?_; rintro e w1 ⟨rfl, rfl⟩) | (go_at_call 51; with_reducible refine Calls.mono (L1.out _ (hB1.out _)) ?_; rintro e w2 ⟨rfl, hb2⟩; have hB2 := (hB1.out _).trans (hb2.mono (by simp)); obtain ⟨hc2, hf2⟩ := bcell hb2) | (go_at_call 51; with_reducible refine Calls.mono (L2.out _ hB2) ?_; rintro e w3 ⟨rfl, hb3⟩; have hB3 := hB2.trans (hb3.mono hB2.size); have hsz2 : w.heap.size < w2.heap.size := (by have := hb2.size; simp at this; omega); obtain ⟨hc3, hf3⟩ := bcell hb3) | (go_at_call 30; (first | with_reducible refine (rwithin_any X.out _).mono ?_ | with_reducible refine (rwithin_any Y.out _).mono ?_); rintro e w4 ⟨rfl, rfl⟩))
    go_ret
    exact ⟨rfl, hB3⟩
  rw [h2] at hc
  simp only [cond_true] at hc
  have Y := Lib.hid h2
  clear h2
  by_cases hlt : mo < le
  all_goals
    (first | rw [decide_eq_true hlt] at hc | rw [decide_eq_false hlt] at hc)
    simp only [cond_true, cond_false] at hc
    subst hc
    go_enter Try.func16, Try.ntmps16
    go_wp2_with (first | (go_at_call 50; refine Calls.mono (N _).out ?_; rintro e w1 ⟨rfl, rfl⟩) | (go_at_call 51; with_reducible refine Calls.mono (L1.out _ (hB1.out _)) ?_; rintro e w2 ⟨rfl, hb2⟩; have hB2 := (hB1.out _).trans (hb2.mono (by simp)); obtain ⟨hc2, hf2⟩ := bcell hb2) | (go_at_call 51; with_reducible refine Calls.mono (L2.out _ hB2) ?_; rintro e w3 ⟨rfl, hb3⟩; have hB3 := hB2.trans (hb3.mono hB2.size); have hsz2 : w.heap.size < w2.heap.size := (by have := hb2.size; simp at this; omega); obtain ⟨hc3, hf3⟩ := bcell hb3) | (go_at_call 30; (first | with_reducible refine (rwithin_any X.out _).mono ?_ | with_reducible refine (rwithin_any Y.out _).mono ?_); rintro e w4 ⟨rfl, rfl⟩))
    go_ret
    exact ⟨rfl, hB3⟩
/-- The error of a fit and of seasons. -/
def bothCode (nm : ByteArray) (F : FitD) (l : List Sn) : Int := bif decide (fitCode nm F = 0) then snsCode l else fitCode nm F
theorem bothCode_ok {nm : ByteArray} {F : FitD} {l : List Sn} (h : bothCode nm F l = 0) : fitCode nm F = 0 ∧ snsCode l = 0 := by
  unfold bothCode at h
  by_cases h0 : fitCode nm F = 0
  · rw [decide_eq_true h0] at h; exact ⟨h0, h⟩
  · rw [decide_eq_false h0] at h; exact absurd h h0
set_option maxHeartbeats 1000000 in
theorem checkFitOver_any {nm : ByteArray} {A A' S : Option Addr} {n c n' c' m d : Nat} {F : FitD} {l : List Sn} {cd : Int} (hc : bothCode nm F l = cd) (hsz : nm.size ≤ maxLen) (hn : n ≤ 1000000) (hn' : n' ≤ 1000000) (hmm : m ≤ maxLen) (w : World) (hA : MdRow w A n F.o) (hA' : MdRow w A' n' F.i) (hS : SnRow w S m l) :
    Calls Try.prog 63 #[ftV nm A n c A' n' c' F.le F.mo, .slice S m d] w fun e w' => e = .returned (.int .i64 cd) ∧ Below w.heap.size w w' := by
  have HMD := Lib.hid (fun wx (hb : Below w.heap.size w wx) => And.intro (hA.below hb) (And.intro (hA'.below hb) (hS.below hb)))
  have hB1 : Hid (∀ o, Below w.heap.size w (w.alloc o)) := Lib.hid (fun o => (Below.refl _ _).alloc (Nat.le_refl _) _)
  clear hA hA' hS
  unfold bothCode at hc
  obtain ⟨fc, hfc⟩ : ∃ fc, fitCode nm F = fc := ⟨_, rfl⟩
  have CF := Lib.hid (fun wx (hb : Below w.heap.size w wx) => checkFit_any (c := c) (c' := c') hfc hsz hn hn' wx (HMD.out wx hb).1 (HMD.out wx hb).2.1)
  rw [hfc] at hc
  clear hfc hn hn'
  unfold ftV at CF ⊢
  by_cases h0 : fc = 0
  · subst h0
    simp only [decide_true, cond_true] at hc
    have CS := Lib.hid (fun wx (hb : Below w.heap.size w wx) => checkSeasons_any (d := d) hc hmm wx (HMD.out wx hb).2.2)
    clear hc hmm HMD
    go_enter Try.func63, Try.ntmps63
    go_wp2_with (first | (go_at_call 17; refine Calls.mono (CF.out _ (hB1.out _)) ?_; rintro e w2 ⟨rfl, hb2⟩; have hB2 := (hB1.out _).trans (hb2.mono (by simp)); obtain ⟨hc2, hf2⟩ := bcell hb2) | (go_at_call 13; refine Calls.mono (CS.out _ hB2) ?_; rintro e w3 ⟨rfl, hb3⟩))
    go_ret
    exact ⟨rfl, hB2.trans (hb3.mono hB2.size)⟩
  · have hcb : (fc == 0) = false := beq_eq_false_iff_ne.2 h0
    have hcb' : (fc != 0) = true := bne_iff_ne.2 h0
    rw [decide_eq_false h0] at hc; simp only [cond_false] at hc; subst hc
    clear HMD
    go_enter Try.func63, Try.ntmps63
    go_wp2_with (first | (go_at_call 17; refine Calls.mono (CF.out _ (hB1.out _)) ?_; rintro e w2 ⟨rfl, hb2⟩; have hB2 := (hB1.out _).trans (hb2.mono (by simp)); obtain ⟨hc2, hf2⟩ := bcell hb2))
    go_ret
    exact ⟨rfl, hB2⟩
set_option maxHeartbeats 1000000 in
theorem rboth_any {nm : ByteArray} {A A' S : Option Addr} {n c n' c' m d : Nat} {F : FitD} {l : List Sn} {cd : Int} (hc : bothCode nm F l = cd) (hsz : nm.size ≤ maxLen) (hn : n ≤ 1000000) (hn' : n' ≤ 1000000) (hmm : m ≤ maxLen) (w : World) (hA : MdRow w A n F.o) (hA' : MdRow w A' n' F.i) (hS : SnRow w S m l) :
    Calls Try.prog 36 #[ftV nm A n c A' n' c' F.le F.mo, .slice S m d] w fun e w' => e = .returned (.int .i64 cd) ∧ Below w.heap.size w w' := by
  have HMD := Lib.hid (fun wx (hb : Below w.heap.size w wx) => And.intro (hA.below hb) (And.intro (hA'.below hb) (hS.below hb)))
  have hB1 : Hid (∀ o, Below w.heap.size w (w.alloc o)) := Lib.hid (fun o => (Below.refl _ _).alloc (Nat.le_refl _) _)
  clear hA hA' hS
  unfold bothCode at hc
  obtain ⟨fc, hfc⟩ : ∃ fc, fitCode nm F = fc := ⟨_, rfl⟩
  have CF := Lib.hid (fun wx (hb : Below w.heap.size w wx) => rfit_any (c := c) (c' := c') hfc hsz hn hn' wx (HMD.out wx hb).1 (HMD.out wx hb).2.1)
  rw [hfc] at hc
  clear hfc hn hn'
  unfold ftV at CF ⊢
  by_cases h0 : fc = 0
  · subst h0
    simp only [decide_true, cond_true] at hc
    have CS := Lib.hid (fun wx (hb : Below w.heap.size w wx) => rseasons_any (d := d) hc hmm wx (HMD.out wx hb).2.2)
    clear hc hmm HMD
    go_enter Try.func36, Try.ntmps36
    go_wp2_with (first | (go_at_call 16; refine Calls.mono (CF.out _ (hB1.out _)) ?_; rintro e w2 ⟨rfl, hb2⟩; have hB2 := (hB1.out _).trans (hb2.mono (by simp)); obtain ⟨hc2, hf2⟩ := bcell hb2) | (go_at_call 14; refine Calls.mono (CS.out _ hB2) ?_; rintro e w3 ⟨rfl, hb3⟩))
    go_ret
    exact ⟨rfl, hB2.trans (hb3.mono hB2.size)⟩
  · have hcb : (fc == 0) = false := beq_eq_false_iff_ne.2 h0
    have hcb' : (fc != 0) = true := bne_iff_ne.2 h0
    rw [decide_eq_false h0] at hc; simp only [cond_false] at hc; subst hc
    clear HMD
    go_enter Try.func36, Try.ntmps36
    go_wp2_with (first | (go_at_call 16; refine Calls.mono (CF.out _ (hB1.out _)) ?_; rintro e w2 ⟨rfl, hb2⟩; have hB2 := (hB1.out _).trans (hb2.mono (by simp)); obtain ⟨hc2, hf2⟩ := bcell hb2))
    go_ret
    exact ⟨rfl, hB2⟩
def slightB (nm : ByteArray) (n n' : Nat) : Bool := decide (nm.size ≤ 30) && (decide (n ≤ 30) && decide (n' ≤ 30))
set_option maxHeartbeats 1000000 in
/-- The law's bound on a fit. -/
theorem slight_law {nm : ByteArray} {A A' : Option Addr} {n c n' c' : Nat} {le mo : Int} (hsz : nm.size ≤ maxLen) (hn : n ≤ maxLen) (hn' : n' ≤ maxLen) (w : World) :
    Calls Try.prog 35 #[ftV nm A n c A' n' c' le mo] w fun e w' => e = .returned (.bool (slightB nm n n')) ∧ Below w.heap.size w w' := by
  have h1 : n ≤ 9223372036854775807 := Nat.le_trans hn (by decide)
  have h2 : n' ≤ 9223372036854775807 := Nat.le_trans hn' (by decide)
  have h3 : nm.size ≤ 9223372036854775807 := Nat.le_trans hsz (by decide)
  have HV : Hid (slightB nm n n' = (decide (nm.size ≤ 30) && (decide (n ≤ 30) && decide (n' ≤ 30)))) := Lib.hid rfl
  obtain ⟨v, hv⟩ : ∃ v, slightB nm n n' = v := ⟨_, rfl⟩
  rw [hv] at HV ⊢
  clear hv
  unfold ftV
  by_cases d0 : nm.size ≤ 30 <;> by_cases d1 : n ≤ 30 <;> by_cases d2 : n' ≤ 30
  all_goals
    have HW := HV
    simp only [d0, d1, d2, decide_true, decide_false, Bool.and_true, Bool.and_false, Bool.true_and, Bool.false_and] at HW
    clear HV
    go_enter Try.func35, Try.ntmps35
    go_wp2
    go_ret
    exact ⟨ret_bool (by rw [HW.out]; try (simp; omega)), (Below.refl _ _).alloc (Nat.le_refl _) _⟩
end Go.Proofs.Ytcjhodlimpgegaa
