/- Walks over the fits: a slot with its errors, the law's bound on seasons. -/
import Derived.Test.YtcjhodlimpgegaaFX
namespace Go.Proofs.Ytcjhodlimpgegaa
open Go.RowKit Go.Maps

theorem RowOf.tail {α : Type} {At : Nat → Nat → α → Prop} {sz : Nat} {blk off : Nat} {n : Nat} {x : α} {xs : List α} {B : Nat} (h : RowOf At sz (some ⟨blk, off, none⟩) n (x :: xs) B) : RowOf At sz (some ⟨blk, off + sz, none⟩) (n - 1) xs B := by
  have hl := h.1
  simp at hl
  refine ⟨by omega, fun hn => ?_⟩
  obtain ⟨b, o, e, hb, hx⟩ := h.2 (by omega)
  simp only [Option.some.injEq, Addr.mk.injEq, and_true] at e
  obtain ⟨rfl, rfl⟩ := e
  refine ⟨_, _, rfl, hb, fun k hk => ?_⟩
  have := hx (k + 1) (by simp; omega)
  rw [List.getElem_cons_succ] at this
  rw [show off + sz + k * sz = off + (k + 1) * sz by rw [Nat.succ_mul]; omega]
  exact this
def slotCode (p : Md) (screw : Int) (l : List Sn) : Int := bif madeB p then (bif allIn 1 10000 [screw] then snsCode l else 2) else 2
def slotN (p : Md) (screw : Int) (l : List Sn) : Int := bif decide (slotCode p screw l = 0) then slotS p screw l else 0
theorem slotCode_zero {p : Md} {screw : Int} {l : List Sn} (h : slotCode p screw l = 0) : MdOk p ∧ allIn 1 10000 [screw] = true ∧ snsCode l = 0 := by
  unfold slotCode at h
  cases hp : madeB p
  · rw [hp] at h; exact absurd h (by simp)
  · cases hs : allIn 1 10000 [screw]
    · rw [hp, hs] at h; exact absurd h (by simp)
    · rw [hp, hs] at h; exact ⟨madeB_iff.1 hp, rfl, h⟩
set_option maxHeartbeats 2000000 in
theorem slot_any {p : Md} {screw c : Int} {S : Option Addr} {m d : Nat} {l : List Sn} (hc : slotCode p screw l = c) (hmm : m ≤ maxLen) (w : World) (hS : SnRow w S m l) :
    Calls Try.prog 29 #[mdV p, .int .i64 screw, .slice S m d] w fun e w' => e = .returned (.tuple #[.int .i64 (slotN p screw l), .int .i64 c]) ∧ Below w.heap.size w w' := by
  by_cases h0 : c = 0
  · subst h0
    obtain ⟨h1, h2, h3⟩ := slotCode_zero hc
    refine (slot_ok h1 h2 h3 w hS).mono fun e w' ⟨he, hw⟩ => ⟨?_, hw⟩
    rw [he]; unfold slotN; rw [hc]; rfl
  · have HN : Hid (slotN p screw l = 0) := Lib.hid (by unfold slotN; rw [hc, decide_eq_false h0]; rfl)
    have hm' : m ≤ 9223372036854775807 := Nat.le_trans hmm (by decide)
    have hcb : (c == 0) = false := beq_eq_false_iff_ne.2 h0
    have hcb' : (c != 0) = true := bne_iff_ne.2 h0
    have HSR := Lib.hid hS
    clear hS
    unfold slotCode at hc
    cases hp : madeB p
    · rw [hp] at hc
      simp only [cond_false] at hc
      subst hc
      have CM := fun wx => Lib.hid (made_any (x := p) (c := 2) (w := wx) (by unfold madeCode; rw [hp]; rfl))
      clear hp
      obtain ⟨ps, pr, pm, pg, plo, phi⟩ := p
      unfold mdV at CM ⊢
      simp only at CM ⊢
      go_enter Try.func29, Try.ntmps29
      go_wp2_with (go_at_call 23; refine Calls.mono (CM _).out ?_; rintro e w1 ⟨rfl, hb1⟩)
      go_ret2
      exact ⟨by rw [HN.out]; rfl, ((Below.refl w.heap.size w).alloc (Nat.le_refl _) _).trans (hb1.mono (by simp))⟩
    · rw [hp] at hc
      simp only [cond_true] at hc
      have CM := fun wx => Lib.hid (made_any (x := p) (c := 0) (w := wx) (by unfold madeCode; rw [hp]; rfl))
      clear hp
      obtain ⟨ps, pr, pm, pg, plo, phi⟩ := p
      unfold mdV at CM ⊢
      simp only at CM ⊢
      cases hs : allIn 1 10000 [screw]
      · rw [hs] at hc
        simp only [cond_false] at hc
        subst hc
        have X := Lib.hid hs
        clear hs
        go_enter Try.func29, Try.ntmps29
        go_wp2_with (first | (go_at_call 23; refine Calls.mono (CM _).out ?_; rintro e w1 ⟨rfl, hb1⟩) | (go_at_call 54; (with_reducible refine (withinOne_fit X.out _ _ (by simp)).mono ?_); rintro e w2 ⟨rfl, hb2⟩))
        go_ret2
        exact ⟨by rw [HN.out]; rfl, (((Below.refl w.heap.size w).alloc (Nat.le_refl _) _).trans (hb1.mono (by simp))).trans (hb2.mono (by have := hb1.size; simp at this; omega))⟩
      · rw [hs] at hc
        simp only [cond_true] at hc
        have X := Lib.hid hs
        have CS := Lib.hid (fun wx (hb : Below w.heap.size w wx) => checkSeasons_any (d := d) hc hmm wx (HSR.out.below hb))
        clear hs hc
        go_enter Try.func29, Try.ntmps29
        go_wp2_with (first | (go_at_call 23; refine Calls.mono (CM _).out ?_; rintro e w1 ⟨rfl, hb1⟩; have hB1 := ((Below.refl w.heap.size w).alloc (Nat.le_refl _) (.cells #[.int .i64 ps, .int .i64 pr, .int .i64 pm, .int .i64 pg, .int .i64 plo, .int .i64 phi] 44)).trans (hb1.mono (by simp))) | (go_at_call 54; (with_reducible refine (withinOne_fit X.out _ _ (by simp)).mono ?_); rintro e w2 ⟨rfl, hb2⟩; have hB2 := hB1.trans (hb2.mono hB1.size)) | (go_at_call 13; refine Calls.mono (CS.out _ hB2) ?_; rintro e w3 ⟨rfl, hb3⟩; have hB3 := hB2.trans (hb3.mono hB2.size)))
        go_ret2
        exact ⟨by rw [HN.out]; rfl, hB3⟩
/-! ### Less seasons -/
theorem snFrom_less : ∀ {l : List Sn} {a b : List ByteArray}, (∀ x ∈ b, x ∈ a) → snFrom a l = 0 → snFrom b l = 0
  | [], _, _, _, _ => rfl
  | s :: r, a, b, hab, h => by
    unfold snFrom at h ⊢
    cases hc : decide (snCode s = 0)
    · rw [hc] at h; exact absurd h (of_decide_eq_false hc)
    · rw [hc] at h
      cases hb : (a.any fun n => decide (n = s.nm))
      · rw [hb] at h
        have : (b.any fun n => decide (n = s.nm)) = false := by
          rw [List.any_eq_false] at hb ⊢
          exact fun x hx => hb x (hab x hx)
        rw [this]
        exact snFrom_less (a := a ++ [s.nm]) (fun x hx => by
          rcases List.mem_append.1 hx with e | e
          · exact List.mem_append_left _ (hab x e)
          · exact List.mem_append_right _ e) h
      · rw [hb] at h; exact absurd h (by simp)
theorem snsCode_tail {s : Sn} {r : List Sn} (h : snsCode (s :: r) = 0) : snsCode r = 0 := by
  have h24 := (snsCode_ok h).1
  unfold snsCode at h ⊢
  rw [decide_eq_false (by simp at h24 ⊢; omega)] at h ⊢
  simp only [cond_false] at h ⊢
  unfold snFrom at h
  cases hc : decide (snCode s = 0)
  · rw [hc] at h; exact absurd h (of_decide_eq_false hc)
  · rw [hc] at h
    simp only [List.any_nil, cond_false, cond_true, List.nil_append] at h
    exact snFrom_less (fun x hx => by cases hx) h
theorem loFrom_le (a : Int) : ∀ (l : List Sn), loFrom a l ≤ a ∧ ∀ s ∈ l, loFrom a l ≤ s.lo
  | [] => ⟨Int.le_refl _, fun s hs => by cases hs⟩
  | s :: r => by
    have h := loFrom_le (min a s.lo) r
    have e : loFrom a (s :: r) = loFrom (min a s.lo) r := rfl
    rw [e]
    refine ⟨by omega, fun x hx => ?_⟩
    rcases List.mem_cons.1 hx with rfl | hx
    · omega
    · exact h.2 x hx
theorem hiFrom_ge (a : Int) : ∀ (l : List Sn), a ≤ hiFrom a l ∧ ∀ s ∈ l, s.hi ≤ hiFrom a l
  | [] => ⟨Int.le_refl _, fun s hs => by cases hs⟩
  | s :: r => by
    have h := hiFrom_ge (max a s.hi) r
    have e : hiFrom a (s :: r) = hiFrom (max a s.hi) r := rfl
    rw [e]
    refine ⟨by omega, fun x hx => ?_⟩
    rcases List.mem_cons.1 hx with rfl | hx
    · omega
    · exact h.2 x hx
theorem loFrom_mono : ∀ {l : List Sn} {a b : Int}, a ≤ b → loFrom a l ≤ loFrom b l
  | [], _, _, h => h
  | s :: r, a, b, h => loFrom_mono (l := r) (a := min a s.lo) (b := min b s.lo) (by omega)
theorem hiFrom_mono : ∀ {l : List Sn} {a b : Int}, a ≤ b → hiFrom a l ≤ hiFrom b l
  | [], _, _, h => h
  | s :: r, a, b, h => hiFrom_mono (l := r) (a := max a s.hi) (b := max b s.hi) (by omega)
theorem upM_mono {a b : Int} (h : a ≤ b) : upM a ≤ upM b := by unfold upM; omega
theorem hiM_mono {p : Md} (hp : MdOk p) {a b : Int} (h : a ≤ b) : hiM p a ≤ hiM p b := by
  have := hiM_min hp a b
  rw [show min a b = a by omega] at this
  omega
/-- A slot grows with the seasons. -/
theorem slotS_grow {p : Md} (hp : MdOk p) (screw : Int) {s : Sn} {r : List Sn} (h : ∀ x ∈ s :: r, SnOk x) : screw ≤ slotS p screw r ∧ slotS p screw r ≤ slotS p screw (s :: r) := by
  have up0 : ∀ d : Int, 0 ≤ d → 0 ≤ upM d := fun d hd => by unfold upM; omega
  have A : ∀ (s : Sn) (r : List Sn), (∀ x ∈ s :: r, SnOk x) → loFrom s.lo (s :: r) ≤ hiFrom s.hi (s :: r) := fun s r h => by
    have h1 := loFrom_le s.lo (s :: r)
    have h2 := hiFrom_ge s.hi (s :: r)
    have h3 := (h s (by simp)).l1
    omega
  cases r with
  | nil =>
    have := up0 _ (Int.sub_nonneg.2 (hiM_mono hp (A s [] h)))
    show screw ≤ screw ∧ screw ≤ screw + upM _
    omega
  | cons s2 r2 =>
    have h2 : ∀ x ∈ s2 :: r2, SnOk x := fun x hx => h x (List.mem_cons_of_mem _ hx)
    have := up0 _ (Int.sub_nonneg.2 (hiM_mono hp (A s2 r2 h2)))
    have hl : loFrom s.lo (s :: s2 :: r2) ≤ loFrom s2.lo (s2 :: r2) := by
      show loFrom (min (min s.lo s.lo) s2.lo) r2 ≤ loFrom (min s2.lo s2.lo) r2
      exact loFrom_mono (by omega)
    have hh : hiFrom s2.hi (s2 :: r2) ≤ hiFrom s.hi (s :: s2 :: r2) := by
      show hiFrom (max s2.hi s2.hi) r2 ≤ hiFrom (max (max s.hi s.hi) s2.hi) r2
      exact hiFrom_mono (by omega)
    have m1 := hiM_mono hp hl
    have m2 := hiM_mono hp hh
    have := upM_mono (a := hiM p (hiFrom s2.hi (s2 :: r2)) - hiM p (loFrom s2.lo (s2 :: r2))) (b := hiM p (hiFrom s.hi (s :: s2 :: r2)) - hiM p (loFrom s.lo (s :: s2 :: r2))) (by omega)
    show screw ≤ screw + upM _ ∧ screw + upM _ ≤ screw + upM _
    omega
/-- The law's bound on seasons. -/
def snBound (l : List Sn) : Bool := !(decide (5 < l.length) && decide (l.length ≤ 24)) && (decide (l.length ≤ 30) && l.all (fun s => decide (s.nm.size ≤ 30)))
theorem snBound_len {l : List Sn} (h : snBound l = true) : l.length ≤ 30 := by
  unfold snBound at h; simp only [Bool.and_eq_true, decide_eq_true_eq] at h; exact h.2.1
theorem snAll_succ {l : List Sn} {k : Nat} (h : k < l.length) : (l.take (k + 1)).all (fun s => decide (s.nm.size ≤ 30)) = ((l.take k).all (fun s => decide (s.nm.size ≤ 30)) && decide (l[k].nm.size ≤ 30)) := by
  rw [List.take_succ_eq_append_getElem h, List.all_append]; simp
set_option maxHeartbeats 1000000 in
theorem seasons_law {l : List Sn} {S : Option Addr} {m d : Nat} {v : Bool} (hv : snBound l = v) (hmm : m ≤ maxLen) (w : World) (hS : SnRow w S m l) :
    Calls Try.prog 10 #[.slice S m d] w fun e w' => e = .returned (.bool v) ∧ w = w' := by
  have hln := hS.1
  have hm' : m ≤ 9223372036854775807 := Nat.le_trans hmm (by decide)
  have HSR := Lib.hid hS
  have HV : Hid ((!(decide (5 < m) && decide (m ≤ 24)) && (decide (m ≤ 30) && l.all (fun s => decide (s.nm.size ≤ 30)))) = v) := Lib.hid (by rw [← hv]; unfold snBound; rw [hln])
  clear hS hv
  by_cases h30 : m ≤ 30
  · by_cases h5 : 5 < m ∧ m ≤ 24
    · obtain ⟨h5, h6⟩ := h5
      have HW : Hid (v = false) := Lib.hid (by rw [← HV.out, decide_eq_true h5, decide_eq_true h6]; rfl)
      go_enter Try.func10, Try.ntmps10
      go_wp2
      go_ret
      exact ⟨ret_bool HW.out.symm, rfl⟩
    · have d1 : decide (30 < (m : Int)) = false := decide_eq_false (by omega)
      have HW : Hid (l.all (fun s => decide (s.nm.size ≤ 30)) = v) := Lib.hid (by
        rw [← HV.out, decide_eq_true h30]
        have : (decide (5 < m) && decide (m ≤ 24)) = false := by rw [Bool.and_eq_false_iff]; simp; omega
        rw [this]; simp)
      clear HV
      go_enter Try.func10, Try.ntmps10
      go_wp2
      all_goals
        go_loopw [3] (fun i wr => ∃ k : Nat, k ≤ m ∧ i = .int .i64 k ∧ Hid ((l.take k).all (fun s => decide (s.nm.size ≤ 30)) = true) ∧ w = wr) (fun i _ => m - (intOf i).toNat)
        case atStart => exact ⟨0, Nat.zero_le _, rfl, Lib.hid rfl, rfl⟩
        case round =>
          obtain ⟨k, hk, rfl, HT, rfl⟩ := hrel
          by_cases hlt : k < m
          · have hkl : k < l.length := by omega
            obtain ⟨blk, off, rfl, hblk, hx⟩ := HSR.out.2 (by omega)
            obtain ⟨q0, -, -, hsz⟩ := hx k hkl
            have HS := Lib.hid (snAll_succ hkl)
            have HM := Lib.hid (List.getElem_mem hkl)
            clear hx
            obtain ⟨x, hx⟩ : ∃ x, l[k] = x := ⟨_, rfl⟩
            rw [hx] at q0 hsz HS HM
            clear hx
            have hsz' : x.nm.size ≤ 9223372036854775807 := Nat.le_trans hsz (by decide)
            by_cases hz : x.nm.size ≤ 30
            · have HT2 : Hid ((l.take (k + 1)).all (fun s => decide (s.nm.size ≤ 30)) = true) := Lib.hid (by rw [HS.out, HT.out, decide_eq_true hz]; rfl)
              go_wp2
              go_roundw
              case rel => exact ⟨k + 1, by omega, by go_num, HT2, by first | rfl | trivial⟩
              case measure => simp [intOf]; omega
            · have HF : Hid (v = false) := Lib.hid (by rw [← HW.out, List.all_eq_false]; exact ⟨_, HM.out, by simp; omega⟩)
              go_wp2
              go_ret
              exact ⟨ret_bool HF.out.symm, rfl⟩
          · have HF : Hid (v = true) := Lib.hid (by rw [← HW.out]; have := HT.out; rwa [List.take_of_length_le (by omega)] at this)
            go_wp2
            go_ret
            exact ⟨ret_bool HF.out.symm, rfl⟩
  · have d1 : decide (30 < (m : Int)) = true := decide_eq_true (by omega)
    have HW : Hid (v = false) := Lib.hid (by rw [← HV.out, decide_eq_false h30]; simp)
    go_enter Try.func10, Try.ntmps10
    go_wp2
    all_goals
      go_ret
      exact ⟨ret_bool HW.out.symm, rfl⟩
theorem slotS_bd {p : Md} (hp : MdOk p) (screw : Int) {l : List Sn} (h : ∀ x ∈ l, SnOk x) : screw ≤ slotS p screw l ∧ slotS p screw l ≤ screw + 1000001 := by
  cases l with
  | nil => exact ⟨Int.le_refl _, by show screw ≤ _; omega⟩
  | cons s r =>
    have g := slotS_grow hp screw h
    have o := h s (by simp)
    have h1 := loFrom_bd (a := s.lo) (l := s :: r) o.l0 (Int.le_trans o.l1 o.h1) h
    have h2 := hiFrom_bd (a := s.hi) (l := s :: r) (Int.le_trans o.l0 o.l1) o.h1 h
    have b1 := millis_bd (mov_hi hp h1.1 h1.2)
    have b2 := millis_bd (mov_hi hp h2.1 h2.2)
    refine ⟨by omega, ?_⟩
    show screw + upM (millis _ _ _ _ - millis _ _ _ _) ≤ _
    unfold upM
    omega
end Go.Proofs.Ytcjhodlimpgegaa
