/- Walks over the fits: the check of seasons. -/
import Derived.Test.YtffmaoalnilkkaaFR
import Derived.Test.YtffmaoalnilkkaaFJ
namespace Go.Proofs.Ytffmaoalnilkkaa
open Go.RowKit Go.Maps

def keyL (s : ByteArray) : Lit := .string s.data.toList
theorem keyL_inj {s t : ByteArray} (h : keyL s = keyL t) : s = t := by
  unfold keyL at h
  injection h with h
  cases s; cases t
  simp at h
  subst h
  rfl
theorem keyL_ne {s t : ByteArray} (h : s ≠ t) : keyL s ≠ keyL t := fun e => h (keyL_inj e)
theorem keyL_isKey (s : ByteArray) : WideAt.IsKeyLit (keyL s) := by unfold keyL; simp [WideAt.IsKeyLit]
/-- The set D has these names. -/
structure SeenOf (D : DataW Unit) (ns : List ByteArray) : Prop where
  isMap : Maps.IsMap D
  at_ : ∀ s, D.atKey (keyL s) (.lit (.bool false)) = .lit (.bool (ns.any fun n => decide (n = s)))
theorem seenOf_nil : SeenOf (.map []) [] := ⟨Maps.isMap_empty, fun s => by simp [DataW.atKey]⟩
theorem SeenOf.snoc {D : DataW Unit} {ns : List ByteArray} (h : SeenOf D ns) (n : ByteArray) : SeenOf (D.put (keyL n) (.lit (.bool true))) (ns ++ [n]) := by
  refine ⟨h.isMap.put _ _, fun s => ?_⟩
  by_cases e : s = n
  · subst e
    rw [Maps.atKey_put_same h.isMap (keyL_isKey _)]
    simp
  · rw [Maps.atKey_put_other (keyL_ne e), h.at_ s]
    simp [Ne.symm e]
theorem plainElem_bool_inv {H : Type} {P : Program} {e : TypeId} (he : P.underlying e = some .bool) {v : Value} {z : DataW H × List MemPlace} (h : plainElem P e v = some z) : ∃ x, v = .bool x ∧ z = (.lit (.bool x), []) := by
  unfold plainElem at h
  rw [he] at h
  cases v <;> simp at h
  exact ⟨_, rfl, h.symm⟩

theorem lawS : Keyed Try.prog 9 := string_keyed Try.underlying9
theorem look_seen {w : World} {b n : Nat} {D : DataW Unit} {ns : List ByteArray} {nm : ByteArray} (hown : w.ownsMap Try.prog 9 (plainElem Try.prog 4) b n D) (hD : SeenOf D ns) (hsz : nm.size ≤ maxLen) {v : Bool} (hv : (ns.any fun n => decide (n = nm)) = v) :
    (Instr.lookup 111 (.map (some b)) (.string nm) false).run Try.prog w = .ok (.bool v) w := by
  obtain ⟨u, ps, hrun, hu⟩ := hown.lookup lawS Try.underlying111 (zeroB w) (plainElem_bool Try.underlying4 false) (WideMaps.keyOf_string_mk Try.underlying9 hsz)
  obtain ⟨c, rfl, hc⟩ := plainElem_bool_inv Try.underlying4 hu
  simp only [Prod.mk.injEq] at hc
  have h2 : D.atKey (keyL nm) (.lit (.bool false)) = .lit (.bool c) := hc.1
  rw [hD.at_ nm, hv] at h2
  simp only [DataW.lit.injEq, Lit.bool.injEq] at h2
  rw [h2]; exact hrun
theorem upd_seen {w : World} {b n : Nat} {D : DataW Unit} {nm : ByteArray} (hown : w.ownsMap Try.prog 9 (plainElem Try.prog 4) b n D) (hn : n < maxLen) (hsz : nm.size ≤ maxLen) :
    ∃ w', (Instr.mapUpdate 111 (.map (some b)) (.string nm) (.bool true)).run Try.prog w = .ok () w' ∧ w'.ownsMap Try.prog 9 (plainElem Try.prog 4) b (n + 1) (D.put (keyL nm) (.lit (.bool true))) ∧ w.grownBy w' (some b) :=
  hown.update lawS Try.underlying111 hn (WideMaps.keyOf_string_mk Try.underlying9 hsz) (plainElem_bool Try.underlying4 true)

/-- The error of a season by itself. -/
def snCode (s : Sn) : Int := bif nameB s.nm then (bif allIn 0 400 [s.lo, s.hi] then (bif decide (s.hi < s.lo) then 9 else 0) else 2) else 4
def snFrom : List ByteArray → List Sn → Int
  | _, [] => 0
  | seen, s :: r => bif decide (snCode s = 0) then (bif (seen.any fun n => decide (n = s.nm)) then 5 else snFrom (seen ++ [s.nm]) r) else snCode s
def snsCode (l : List Sn) : Int := bif decide (24 < l.length) then 8 else snFrom [] l
theorem snCode_ok {s : Sn} (h : snCode s = 0) : SnOk s ∧ nameB s.nm = true := by
  unfold snCode at h
  cases hn : nameB s.nm
  · rw [hn] at h; exact absurd h (by simp)
  · cases hi : allIn 0 400 [s.lo, s.hi]
    · rw [hn, hi] at h; exact absurd h (by simp)
    · cases hc : decide (s.hi < s.lo)
      · have h1 := allIn_iff.1 hi s.lo (by simp)
        have h2 := allIn_iff.1 hi s.hi (by simp)
        have h3 := of_decide_eq_false hc
        exact ⟨⟨h1.1, by omega, h2.2⟩, rfl⟩
      · rw [hn, hi, hc] at h; exact absurd h (by simp)
theorem snFrom_ok : ∀ {l : List Sn} {seen : List ByteArray}, snFrom seen l = 0 → ∀ s ∈ l, snCode s = 0
  | [], _, _, s, hs => by cases hs
  | x :: r, seen, h, s, hs => by
    unfold snFrom at h
    cases hc : decide (snCode x = 0)
    · rw [hc] at h; exact absurd h (of_decide_eq_false hc)
    · rw [hc] at h
      cases hb : (seen.any fun n => decide (n = x.nm))
      · rw [hb] at h
        rcases List.mem_cons.1 hs with e | e
        · rw [e]; exact of_decide_eq_true hc
        · exact snFrom_ok h s e
      · rw [hb] at h; exact absurd h (by simp)
theorem snsCode_ok {l : List Sn} (h : snsCode l = 0) : l.length ≤ 24 ∧ ∀ s ∈ l, SnOk s := by
  unfold snsCode at h
  cases hc : decide (24 < l.length)
  · rw [hc] at h; exact ⟨by have := of_decide_eq_false hc; omega, fun s hs => (snCode_ok (snFrom_ok h s hs)).1⟩
  · rw [hc] at h; exact absurd h (by simp)
def snV (s : Sn) : Value := .agg #[.string s.nm, .int .i64 s.lo, .int .i64 s.hi]
set_option maxHeartbeats 1000000 in
theorem checkSeason_any {s : Sn} {c : Int} (hc : snCode s = c) (hsz : s.nm.size ≤ maxLen) (w : World) :
    Calls Try.prog 48 #[snV s] w fun e w' => e = .returned (.int .i64 c) ∧ Below w.heap.size w w' := by
  obtain ⟨nm, lo, hi⟩ := s
  unfold snCode at hc
  unfold snV
  simp only at hc hsz ⊢
  cases hn : nameB nm
  · have N := fun wx => Lib.hid (isName_any (w := wx) hn hsz)
    rw [hn] at hc; simp only [cond_false] at hc; subst hc
    clear hn
    go_enter Try.func48, Try.ntmps48
    go_wp2_with (go_at_call 52; refine Calls.mono (N _).out ?_; rintro e w1 ⟨rfl, rfl⟩)
    go_ret
    exact ⟨rfl, (Below.refl _ _).alloc (Nat.le_refl _) _⟩
  · have N := fun wx => Lib.hid (isName_any (w := wx) hn hsz)
    rw [hn] at hc; simp only [cond_true] at hc
    clear hn
    cases hi' : allIn 0 400 [lo, hi]
    · rw [hi'] at hc; simp only [cond_false] at hc; subst hc
      have X := Lib.hid hi'
      clear hi'
      go_enter Try.func48, Try.ntmps48
      go_wp2_with (first | (go_at_call 52; refine Calls.mono (N _).out ?_; rintro e w1 ⟨rfl, rfl⟩) | (go_at_call 54; (with_reducible refine (withinTwo_fit X.out _ _ (by simp)).mono ?_); rintro e w1 ⟨rfl, hb1⟩))
      go_ret
      exact ⟨rfl, ((Below.refl _ _).alloc (Nat.le_refl _) _).trans (hb1.mono (by simp))⟩
    · rw [hi'] at hc; simp only [cond_true] at hc
      have X := Lib.hid hi'
      clear hi'
      by_cases hlt : hi < lo
      · rw [decide_eq_true hlt] at hc; simp only [cond_true] at hc; subst hc
        go_enter Try.func48, Try.ntmps48
        go_wp2_with (first | (go_at_call 52; refine Calls.mono (N _).out ?_; rintro e w1 ⟨rfl, rfl⟩) | (go_at_call 54; (with_reducible refine (withinTwo_fit X.out _ _ (by simp)).mono ?_); rintro e w1 ⟨rfl, hb1⟩; obtain ⟨hc1, hf1⟩ := bcell hb1))
        go_ret
        exact ⟨rfl, ((Below.refl _ _).alloc (Nat.le_refl _) _).trans (hb1.mono (by simp))⟩
      · rw [decide_eq_false hlt] at hc; simp only [cond_false] at hc; subst hc
        go_enter Try.func48, Try.ntmps48
        go_wp2_with (first | (go_at_call 52; refine Calls.mono (N _).out ?_; rintro e w1 ⟨rfl, rfl⟩) | (go_at_call 54; (with_reducible refine (withinTwo_fit X.out _ _ (by simp)).mono ?_); rintro e w1 ⟨rfl, hb1⟩; obtain ⟨hc1, hf1⟩ := bcell hb1))
        go_ret
        exact ⟨rfl, ((Below.refl _ _).alloc (Nat.le_refl _) _).trans (hb1.mono (by simp))⟩
theorem nameOf_any {nm : ByteArray} {lo hi : Int} (w : World) :
    Calls Try.prog 47 #[.agg #[.string nm, .int .i64 lo, .int .i64 hi]] w fun e w' => e = .returned (.string nm) ∧ Below w.heap.size w w' := by
  go_enter Try.func47, Try.ntmps47
  go_wp2
  go_ret
  exact ⟨rfl, (Below.refl _ _).alloc (Nat.le_refl _) _⟩
set_option maxHeartbeats 1000000 in
theorem named_any (w : World) :
    Calls Try.prog 46 #[.func (.func 47) #[] #[], .func (.func 48) #[] #[]] w
      fun e w' => e = .returned (.func (.func 73) #[] #[.pointer (some ⟨w.heap.size + 1, 0, none⟩), .pointer (some ⟨w.heap.size + 1 + 1 + 1, 0, none⟩), .pointer (some ⟨w.heap.size, 0, none⟩)]) ∧
        w'.cell? ⟨w.heap.size, 0, none⟩ = some (.func (.func 47) #[] #[]) ∧ w'.cell? ⟨w.heap.size + 1, 0, none⟩ = some (.func (.func 48) #[] #[]) ∧ w'.cell? ⟨w.heap.size + 1 + 1 + 1, 0, none⟩ = some (.map (some (w.heap.size + 1 + 1))) ∧
        w'.ownsMap Try.prog 9 (plainElem Try.prog 4) (w.heap.size + 1 + 1) 0 (DataW.map [] : DataW Unit) ∧ w.heap.size + 3 < w'.heap.size ∧ Below w.heap.size w w' := by
  have hmk := @run_makeMap Try.prog
  go_enter Try.func46, Try.ntmps46
  go_wp2
  go_ret
  refine ⟨rfl, by simp [go_sem], by simp [go_sem], by simp [go_sem], ?_, by first | (simp; done) | (simp; omega), ((((Below.refl _ _).alloc (Nat.le_refl _) _).alloc (by simp) _).alloc (by simp; omega) _).alloc (by simp; omega) _⟩
  refine World.ownsMap.alloc ?_ _
  have := World.ownsMap_made (H := Unit) ((w.alloc (.cells #[.func (.func 47) #[] #[]] 88)).alloc (.cells #[.func (.func 48) #[] #[]] 86)) Try.prog 9 (plainElem Try.prog 4)
  simpa using this
theorem kept_s {wx w' : World} {b5 b2 bs mb : Nat} {nm : ByteArray} {lo hi : Int} (h : wx.cell? ⟨b5, 0, none⟩ = some (.map (some mb)) ∧ wx.cell? ⟨b2, 0, none⟩ = some (.func (.func 47) #[] #[]) ∧ wx.cell? ⟨bs, 0, none⟩ = some (.string nm) ∧ wx.cell? ⟨bs, 0 + 1, none⟩ = some (.int .i64 lo) ∧ wx.cell? ⟨bs, 0 + 2, none⟩ = some (.int .i64 hi)) (hb : Below wx.heap.size wx w') : w'.cell? ⟨b5, 0, none⟩ = some (.map (some mb)) ∧ w'.cell? ⟨b2, 0, none⟩ = some (.func (.func 47) #[] #[]) ∧ w'.cell? ⟨bs, 0, none⟩ = some (.string nm) ∧ w'.cell? ⟨bs, 0 + 1, none⟩ = some (.int .i64 lo) ∧ w'.cell? ⟨bs, 0 + 2, none⟩ = some (.int .i64 hi) := by
  obtain ⟨h0, h1, h2, h3, h4⟩ := h
  have l0 := World.block_lt_of_cell? wx ⟨b5, 0, none⟩ h0
  have l1 := World.block_lt_of_cell? wx ⟨b2, 0, none⟩ h1
  have l2 := World.block_lt_of_cell? wx ⟨bs, 0, none⟩ h2
  have k : ∀ b o, b < wx.heap.size → w'.cell? ⟨b, o, none⟩ = wx.cell? ⟨b, o, none⟩ := fun b o hlt => hb.cell (p := ⟨b, o, none⟩) hlt
  exact ⟨by rw [k _ _ l0, h0], by rw [k _ _ l1, h1], by rw [k _ _ l2, h2], by rw [k _ _ l2, h3], by rw [k _ _ l2, h4]⟩
theorem keptg_s {wx w' : World} {b5 b2 bs mb : Nat} {nm : ByteArray} {lo hi : Int} (h : wx.cell? ⟨b5, 0, none⟩ = some (.map (some mb)) ∧ wx.cell? ⟨b2, 0, none⟩ = some (.func (.func 47) #[] #[]) ∧ wx.cell? ⟨bs, 0, none⟩ = some (.string nm) ∧ wx.cell? ⟨bs, 0 + 1, none⟩ = some (.int .i64 lo) ∧ wx.cell? ⟨bs, 0 + 2, none⟩ = some (.int .i64 hi)) (hg : wx.grownBy w' (some mb)) (n5 : b5 ≠ mb) (n2 : b2 ≠ mb) (ns : bs ≠ mb) : w'.cell? ⟨b5, 0, none⟩ = some (.map (some mb)) ∧ w'.cell? ⟨b2, 0, none⟩ = some (.func (.func 47) #[] #[]) ∧ w'.cell? ⟨bs, 0, none⟩ = some (.string nm) ∧ w'.cell? ⟨bs, 0 + 1, none⟩ = some (.int .i64 lo) ∧ w'.cell? ⟨bs, 0 + 2, none⟩ = some (.int .i64 hi) := by
  obtain ⟨h0, h1, h2, h3, h4⟩ := h
  have l0 := World.block_lt_of_cell? wx ⟨b5, 0, none⟩ h0
  have l1 := World.block_lt_of_cell? wx ⟨b2, 0, none⟩ h1
  have l2 := World.block_lt_of_cell? wx ⟨bs, 0, none⟩ h2
  have k : ∀ b o, b < wx.heap.size → b ≠ mb → w'.cell? ⟨b, o, none⟩ = wx.cell? ⟨b, o, none⟩ := fun b o hlt hne => hg.cell_far ⟨b, o, none⟩ hlt (fun e => hne (by injection e))
  exact ⟨by rw [k _ _ l0 n5, h0], by rw [k _ _ l1 n2, h1], by rw [k _ _ l2 ns, h2], by rw [k _ _ l2 ns, h3], by rw [k _ _ l2 ns, h4]⟩
set_option maxHeartbeats 2000000 in
theorem seen_err {s : Sn} {ns : List ByteArray} {D : DataW Unit} {n b5 b3 b2 mb : Nat} (hsz : s.nm.size ≤ maxLen) (w : World) (c3 : w.cell? ⟨b3, 0, none⟩ = some (.func (.func 48) #[] #[])) (c5 : w.cell? ⟨b5, 0, none⟩ = some (.map (some mb))) (c2 : w.cell? ⟨b2, 0, none⟩ = some (.func (.func 47) #[] #[])) {c : Int} (hc : snCode s = c) (hne : c ≠ 0) :
    Calls Try.prog 73 #[snV s, .pointer (some ⟨b3, 0, none⟩), .pointer (some ⟨b5, 0, none⟩), .pointer (some ⟨b2, 0, none⟩)] w fun e w' => e = .returned (.int .i64 c) ∧ Below w.heap.size w w' := by
  obtain ⟨nm, lo, hi⟩ := s
  unfold snV
  simp only at hsz hc ⊢
  have l3 := World.block_lt_of_cell? w _ c3
  have l5 := World.block_lt_of_cell? w _ c5
  have l2 := World.block_lt_of_cell? w _ c2
  simp only at l3 l5 l2
  have CS := fun wx => Lib.hid (checkSeason_any (w := wx) hc hsz)
  unfold snV at CS
  simp only at CS

  have hcb : (c == 0) = false := beq_eq_false_iff_ne.2 hne
  have hcb' : (c != 0) = true := bne_iff_ne.2 hne
  clear hc
  go_enter Try.func73, Try.ntmps73
  go_wp2_with (go_at_call 48; refine Calls.mono (CS _).out ?_; rintro e w1 ⟨rfl, hb1'⟩)
  go_ret
  exact ⟨rfl, ((Below.refl _ _).alloc (Nat.le_refl _) _).trans (hb1'.mono (by simp))⟩
set_option maxHeartbeats 2000000 in
set_option maxRecDepth 20000 in
theorem seen_dup {s : Sn} {ns : List ByteArray} {D : DataW Unit} {n b5 b3 b2 mb : Nat} (hsz : s.nm.size ≤ maxLen) (w : World) (c3 : w.cell? ⟨b3, 0, none⟩ = some (.func (.func 48) #[] #[])) (c5 : w.cell? ⟨b5, 0, none⟩ = some (.map (some mb))) (c2 : w.cell? ⟨b2, 0, none⟩ = some (.func (.func 47) #[] #[])) (hc : snCode s = 0) (hm : mb < w.heap.size) (n5 : b5 ≠ mb) (n2 : b2 ≠ mb) (hn : n ≤ 1000000) (hown : w.ownsMap Try.prog 9 (plainElem Try.prog 4) mb n D) (hD : SeenOf D ns) (hv : (ns.any fun x => decide (x = s.nm)) = true) :
    Calls Try.prog 73 #[snV s, .pointer (some ⟨b3, 0, none⟩), .pointer (some ⟨b5, 0, none⟩), .pointer (some ⟨b2, 0, none⟩)] w fun e w' => e = .returned (.int .i64 5) ∧ Below w.heap.size w w' := by
  obtain ⟨nm, lo, hi⟩ := s
  unfold snV
  simp only at hsz hc hv ⊢
  have l3 := World.block_lt_of_cell? w _ c3
  have l5 := World.block_lt_of_cell? w _ c5
  have l2 := World.block_lt_of_cell? w _ c2
  simp only at l3 l5 l2
  have CS := fun wx => Lib.hid (checkSeason_any (w := wx) hc hsz)
  unfold snV at CS
  simp only at CS

  have HD := Lib.hid hD
  have HV := Lib.hid hv
  clear hc hv
  go_enter Try.func73, Try.ntmps73
  go_wp2_with (go_at_call 48; refine Calls.mono (CS _).out ?_; rintro e w1 ⟨rfl, hb1'⟩; have hb1 := ((Below.refl w.heap.size w).alloc (Nat.le_refl _) (.cells #[.string nm, .int .i64 lo, .int .i64 hi] 46)).trans (hb1'.mono (by simp)))
  have hs1 : w.heap.size < w1.heap.size := by have := hb1'.size; simp at this; omega
  have e0 : w1.cell? ⟨b5, 0, none⟩ = some (.map (some mb)) := (hb1.cell (p := ⟨b5, 0, none⟩) l5).trans c5
  have e1 : w1.cell? ⟨b2, 0, none⟩ = some (.func (.func 47) #[] #[]) := (hb1.cell (p := ⟨b2, 0, none⟩) l2).trans c2
  have e2 : w1.cell? ⟨w.heap.size, 0, none⟩ = some (.string nm) := (hb1'.cell (p := ⟨w.heap.size, 0, none⟩) (by simp)).trans (by rw [World.cell?_alloc_new]; rfl)
  have e3 : w1.cell? ⟨w.heap.size, 0 + 1, none⟩ = some (.int .i64 lo) := (hb1'.cell (p := ⟨w.heap.size, 1, none⟩) (by simp)).trans (by rw [World.cell?_alloc_new]; rfl)
  have e4 : w1.cell? ⟨w.heap.size, 0 + 2, none⟩ = some (.int .i64 hi) := (hb1'.cell (p := ⟨w.heap.size, 2, none⟩) (by simp)).trans (by rw [World.cell?_alloc_new]; rfl)
  have hown1 := hown.kept (below_grown hb1 none) (by simp)
  have HB1 := Lib.hid hb1
  clear hb1' hb1
  go_region_held3 (fun wx => wx.cell? ⟨b5, 0, none⟩ = some (.map (some mb)) ∧ wx.cell? ⟨b2, 0, none⟩ = some (.func (.func 47) #[] #[]) ∧ wx.cell? ⟨w.heap.size, 0, none⟩ = some (.string nm) ∧ wx.cell? ⟨w.heap.size, 0 + 1, none⟩ = some (.int .i64 lo) ∧ wx.cell? ⟨w.heap.size, 0 + 2, none⟩ = some (.int .i64 hi)) ((first | assumption | (refine ⟨?_, ?_, ?_, ?_, ?_⟩ <;> assumption) | (exact kept_s (by assumption) hb5) | (exact keptg_s (by assumption) hgrow6 (by omega) (by omega) (by omega)))) (first | (go_at_call 47; refine (nameOf_any _).mono ?_; rintro e w5 ⟨rfl, hb5⟩; have hown5 := World.ownsMap.kept hown1.drew (below_grown hb5 none) (by simp); have hl5 := look_seen hown5 HD.out hsz HV.out))
  all_goals
    go_wp2
    go_ret
    exact ⟨rfl, (HB1.out.drew).trans (hb5.mono (by simp; omega))⟩
set_option maxHeartbeats 2000000 in
set_option maxRecDepth 20000 in
theorem seen_new {s : Sn} {ns : List ByteArray} {D : DataW Unit} {n b5 b3 b2 mb : Nat} (hsz : s.nm.size ≤ maxLen) (w : World) (c3 : w.cell? ⟨b3, 0, none⟩ = some (.func (.func 48) #[] #[])) (c5 : w.cell? ⟨b5, 0, none⟩ = some (.map (some mb))) (c2 : w.cell? ⟨b2, 0, none⟩ = some (.func (.func 47) #[] #[])) (hc : snCode s = 0) (hm : mb < w.heap.size) (n5 : b5 ≠ mb) (n2 : b2 ≠ mb) (hn : n ≤ 1000000) (hown : w.ownsMap Try.prog 9 (plainElem Try.prog 4) mb n D) (hD : SeenOf D ns) (hv : (ns.any fun x => decide (x = s.nm)) = false) :
    Calls Try.prog 73 #[snV s, .pointer (some ⟨b3, 0, none⟩), .pointer (some ⟨b5, 0, none⟩), .pointer (some ⟨b2, 0, none⟩)] w fun e w' => e = .returned (.int .i64 0) ∧ w'.ownsMap Try.prog 9 (plainElem Try.prog 4) mb (n + 1) (D.put (keyL s.nm) (.lit (.bool true))) ∧ w.grownBy w' (some mb) := by
  obtain ⟨nm, lo, hi⟩ := s
  unfold snV
  simp only at hsz hc hv ⊢
  have l3 := World.block_lt_of_cell? w _ c3
  have l5 := World.block_lt_of_cell? w _ c5
  have l2 := World.block_lt_of_cell? w _ c2
  simp only at l3 l5 l2
  have CS := fun wx => Lib.hid (checkSeason_any (w := wx) hc hsz)
  unfold snV at CS
  simp only at CS

  have HD := Lib.hid hD
  have HV := Lib.hid hv
  clear hc hv
  go_enter Try.func73, Try.ntmps73
  go_wp2_with (go_at_call 48; refine Calls.mono (CS _).out ?_; rintro e w1 ⟨rfl, hb1'⟩; have hb1 := ((Below.refl w.heap.size w).alloc (Nat.le_refl _) (.cells #[.string nm, .int .i64 lo, .int .i64 hi] 46)).trans (hb1'.mono (by simp)))
  have hs1 : w.heap.size < w1.heap.size := by have := hb1'.size; simp at this; omega
  have e0 : w1.cell? ⟨b5, 0, none⟩ = some (.map (some mb)) := (hb1.cell (p := ⟨b5, 0, none⟩) l5).trans c5
  have e1 : w1.cell? ⟨b2, 0, none⟩ = some (.func (.func 47) #[] #[]) := (hb1.cell (p := ⟨b2, 0, none⟩) l2).trans c2
  have e2 : w1.cell? ⟨w.heap.size, 0, none⟩ = some (.string nm) := (hb1'.cell (p := ⟨w.heap.size, 0, none⟩) (by simp)).trans (by rw [World.cell?_alloc_new]; rfl)
  have e3 : w1.cell? ⟨w.heap.size, 0 + 1, none⟩ = some (.int .i64 lo) := (hb1'.cell (p := ⟨w.heap.size, 1, none⟩) (by simp)).trans (by rw [World.cell?_alloc_new]; rfl)
  have e4 : w1.cell? ⟨w.heap.size, 0 + 2, none⟩ = some (.int .i64 hi) := (hb1'.cell (p := ⟨w.heap.size, 2, none⟩) (by simp)).trans (by rw [World.cell?_alloc_new]; rfl)
  have hown1 := hown.kept (below_grown hb1 none) (by simp)
  have HB1 := Lib.hid hb1
  clear hb1' hb1
  go_region_held3 (fun wx => wx.cell? ⟨b5, 0, none⟩ = some (.map (some mb)) ∧ wx.cell? ⟨b2, 0, none⟩ = some (.func (.func 47) #[] #[]) ∧ wx.cell? ⟨w.heap.size, 0, none⟩ = some (.string nm) ∧ wx.cell? ⟨w.heap.size, 0 + 1, none⟩ = some (.int .i64 lo) ∧ wx.cell? ⟨w.heap.size, 0 + 2, none⟩ = some (.int .i64 hi)) ((first | assumption | (refine ⟨?_, ?_, ?_, ?_, ?_⟩ <;> assumption) | (exact kept_s (by assumption) hb5) | (exact keptg_s (by assumption) hgrow6 (by omega) (by omega) (by omega)))) (first | (go_at_call 47; refine (nameOf_any _).mono ?_; rintro e w5 ⟨rfl, hb5⟩; have hown5 := World.ownsMap.kept hown1.drew (below_grown hb5 none) (by simp); have hl5 := look_seen hown5 HD.out hsz HV.out))
  have hs5 : w.heap.size < w5.heap.size := by have := hb5.size; simp at this; omega
  have HB5 := Lib.hid ((HB1.out.drew).trans (hb5.mono (by simp; omega)))
  obtain ⟨z0, z1, z2, z3, z4⟩ := ‹w5.cell? ⟨b5, 0, none⟩ = some (.map (some mb)) ∧ _›
  clear e0 e1 e2 e3 e4 hown1 hb5
  go_wp2
  go_region_held3 (fun wx => wx.cell? ⟨b5, 0, none⟩ = some (.map (some mb)) ∧ wx.cell? ⟨b2, 0, none⟩ = some (.func (.func 47) #[] #[]) ∧ wx.cell? ⟨w.heap.size, 0, none⟩ = some (.string nm) ∧ wx.cell? ⟨w.heap.size, 0 + 1, none⟩ = some (.int .i64 lo) ∧ wx.cell? ⟨w.heap.size, 0 + 2, none⟩ = some (.int .i64 hi)) ((first | assumption | (refine ⟨?_, ?_, ?_, ?_, ?_⟩ <;> assumption) | (exact kept_s (by assumption) hb7) | (exact keptg_s (by assumption) hgrow6 (by omega) (by omega) (by omega)))) (first | (go_at_call 47; refine (nameOf_any _).mono ?_; rintro e w7 ⟨rfl, hb7⟩; have hown7 := World.ownsMap.kept hown5.drew (below_grown hb7 none) (by simp); obtain ⟨w6, hrun6, hown6, hgrow6⟩ := upd_seen hown7 (by unfold maxLen; omega) hsz))
  all_goals
    go_wp2
    go_ret
    refine ⟨rfl, hown6, ?_⟩
    exact ((below_grown ((HB5.out.drew).trans (hb7.mono (by simp; omega))) (some mb)).trans hgrow6)

theorem snFrom_cons {seen : List ByteArray} {l : List Sn} {k : Nat} (h : k < l.length) : snFrom seen (l.drop k) = bif decide (snCode l[k] = 0) then (bif (seen.any fun n => decide (n = l[k].nm)) then 5 else snFrom (seen ++ [l[k].nm]) (l.drop (k + 1))) else snCode l[k] := by
  rw [List.drop_eq_getElem_cons h]; rfl
theorem snFrom_end {seen : List ByteArray} {l : List Sn} {k : Nat} (h : l.length ≤ k) : snFrom seen (l.drop k) = 0 := by
  rw [List.drop_eq_nil_iff.2 h]; rfl
theorem names_succ {l : List Sn} {k : Nat} (h : k < l.length) : (l.take (k + 1)).map Sn.nm = (l.take k).map Sn.nm ++ [l[k].nm] := by
  rw [List.take_succ_eq_append_getElem h, List.map_append]; rfl
set_option maxHeartbeats 4000000 in
set_option maxRecDepth 20000 in
theorem checkListsS_any {l : List Sn} {S : Option Addr} {c : Int} {m d lb lc b5 b3 b2 mb : Nat} (hc : snsCode l = c) (hmm : m ≤ maxLen) (w : World) (hS : SnRow w S m l) (hl : w.cell? ⟨lb, 0, none⟩ = some (.slice S m d))
    (c3 : w.cell? ⟨b3, 0, none⟩ = some (.func (.func 48) #[] #[])) (c5 : w.cell? ⟨b5, 0, none⟩ = some (.map (some mb))) (c2 : w.cell? ⟨b2, 0, none⟩ = some (.func (.func 47) #[] #[]))
    (hS2 : 0 < m → ∀ blk off, S = some ⟨blk, off, none⟩ → blk < mb) (n5 : b5 ≠ mb) (n2 : b2 ≠ mb) (n3 : b3 ≠ mb) (nl : lb ≠ mb) (hown : w.ownsMap Try.prog 9 (plainElem Try.prog 4) mb 0 (DataW.map [] : DataW Unit)) :
    Calls Try.prog 45 #[.int .i64 24, .func (.func 73) #[] #[.pointer (some ⟨b3, 0, none⟩), .pointer (some ⟨b5, 0, none⟩), .pointer (some ⟨b2, 0, none⟩)], .slice (some ⟨lb, 0, none⟩) 1 1] w
      fun e w' => e = .returned (.int .i64 c) ∧ Below mb w w' := by
  have hln := hS.1
  have hmb := hown.lt
  have hm' : m ≤ 9223372036854775807 := Nat.le_trans hmm (by decide)
  have hlb := World.block_lt_of_cell? w _ hl
  simp only at hlb
  have hw1 : IntKind.i64.wrap ((m : Nat) : Int) = (m : Int) := by rw [IntKind.wrap_i64]; omega
  have HSR := Lib.hid hS
  have HOW := Lib.hid hown
  clear hS hown
  go_enter Try.func45, Try.ntmps45
  go_wp2
  go_loop [7, 17] (fun s i => (i = .int .i64 0 ∧ s = .int .i64 0) ∨ (i = .int .i64 1 ∧ s = .int .i64 m)) (fun _ i => 1 - (intOf i).toNat)
  case atStart => exact .inl ⟨rfl, rfl⟩
  case round =>
    rcases hrel with ⟨rfl, rfl⟩ | ⟨rfl, rfl⟩
    · go_wp2
      go_round
      case rel => exact .inr ⟨rfl, rfl⟩
      case measure => simp [intOf]
    · by_cases h24 : 24 < m
      · have HC : Hid (c = 8) := Lib.hid (by rw [← hc]; unfold snsCode; rw [decide_eq_true (by omega)]; rfl)
        clear hc
        go_wp2
        go_ret
        exact ⟨ret_int HC.out.symm, Below.refl _ _⟩
      · have HC : Hid (snFrom [] (l.drop 0) = c) := Lib.hid (by rw [← hc]; unfold snsCode; rw [decide_eq_false (by omega)]; rfl)
        clear hc
        go_wp2
        go_loopw [31] (fun i wr => (i = .int .i64 0 ∧ w = wr) ∨ (i = .int .i64 1 ∧ Hid (c = 0) ∧ Below mb w wr)) (fun i _ => 1 - (intOf i).toNat)
        case atStart => exact .inl ⟨rfl, rfl⟩
        case round =>
          rcases hrel with ⟨rfl, rfl⟩ | ⟨rfl, h0, hbe⟩
          · 
            go_wp2
            go_loopw [37] (fun i wr => ∃ (k : Nat) (D : DataW Unit), k ≤ m ∧ i = .int .i64 k ∧ Hid (snFrom ((l.take k).map Sn.nm) (l.drop k) = c) ∧ wr.ownsMap Try.prog 9 (plainElem Try.prog 4) mb k D ∧ Hid (SeenOf D ((l.take k).map Sn.nm)) ∧ Hid (Below mb w wr) ∧ wr.cell? ⟨b3, 0, none⟩ = some (.func (.func 48) #[] #[]) ∧ wr.cell? ⟨b5, 0, none⟩ = some (.map (some mb)) ∧ wr.cell? ⟨b2, 0, none⟩ = some (.func (.func 47) #[] #[])) (fun i _ => m - (intOf i).toNat)
            case atStart => exact ⟨0, DataW.map [], Nat.zero_le _, rfl, HC, HOW.out, Lib.hid seenOf_nil, Lib.hid (Below.refl _ _), c3, c5, c2⟩
            case round =>
              clear c3 c5 c2
              obtain ⟨k, D, hk, rfl, HT, hown, HD, HB, c3, c5, c2⟩ := hrel
              have hmr := hown.lt
              by_cases hlt : k < m
              · have hkl : k < l.length := by omega
                obtain ⟨blk, off, rfl, hblk, hx⟩ := HSR.out.2 (by omega)
                have hbm := hS2 (by omega) blk off rfl
                have hxx := (hx k hkl).below HB.out hbm
                have HS := Lib.hid (snFrom_cons (seen := (l.take k).map Sn.nm) hkl)
                have HNS := Lib.hid (names_succ hkl)
                clear hx
                obtain ⟨x, hxe⟩ : ∃ x, l[k] = x := ⟨_, rfl⟩
                rw [hxe] at hxx HS HNS
                clear hxe
                have HX := Lib.hid hxx
                obtain ⟨nm, lo, hi⟩ := x
                obtain ⟨q0, q1, q2, hsz⟩ := hxx
                simp only at q0 q1 q2 hsz HS HNS
                have HBA : Hid (Below mb w (wr.alloc (.cells #[.string nm, .int .i64 lo, .int .i64 hi] 46))) := Lib.hid (HB.out.alloc (by omega) _)
                have k3 : (wr.alloc (.cells #[.string nm, .int .i64 lo, .int .i64 hi] 46)).cell? ⟨b3, 0, none⟩ = _ := (((Below.refl wr.heap.size wr).alloc (Nat.le_refl _) _).cell (p := ⟨b3, 0, none⟩) (World.block_lt_of_cell? wr _ c3)).trans c3
                have k5 : (wr.alloc (.cells #[.string nm, .int .i64 lo, .int .i64 hi] 46)).cell? ⟨b5, 0, none⟩ = _ := (((Below.refl wr.heap.size wr).alloc (Nat.le_refl _) _).cell (p := ⟨b5, 0, none⟩) (World.block_lt_of_cell? wr _ c5)).trans c5
                have k2 : (wr.alloc (.cells #[.string nm, .int .i64 lo, .int .i64 hi] 46)).cell? ⟨b2, 0, none⟩ = _ := (((Below.refl wr.heap.size wr).alloc (Nat.le_refl _) _).cell (p := ⟨b2, 0, none⟩) (World.block_lt_of_cell? wr _ c2)).trans c2
                by_cases hs0 : snCode ⟨nm, lo, hi⟩ = 0
                · cases hv : ((l.take k).map Sn.nm).any fun n => decide (n = nm)
                  · have HV : Hid (snFrom ((l.take (k + 1)).map Sn.nm) (l.drop (k + 1)) = c) := Lib.hid (by rw [← HT.out, HS.out, decide_eq_true hs0, hv, HNS.out]; rfl)
                    have CF := Lib.hid (seen_new (s := ⟨nm, lo, hi⟩) hsz _ k3 k5 k2 hs0 (by simp; omega) n5 n2 (by omega) (hown.alloc _) HD.out hv)
                    have HDN : Hid (SeenOf (D.put (keyL nm) (.lit (.bool true))) ((l.take (k + 1)).map Sn.nm)) := Lib.hid (by rw [HNS.out]; exact HD.out.snoc nm)
                    unfold snV at CF
                    clear hs0 hv HS
                    go_wp2_with (go_at_call 73; refine Calls.mono CF.out ?_; rintro e w2 ⟨rfl, hown2, hgrow2⟩)
                    go_roundw
                    case rel =>
                      refine ⟨k + 1, _, by omega, by go_num, HV, hown2, HDN, Lib.hid (HBA.out.grown hgrow2 (by simp; omega) (fun j hj => by cases hj; exact Nat.le_refl _)), ?_, ?_, ?_⟩
                      · rw [hgrow2.cell_far ⟨b3, 0, none⟩ (World.block_lt_of_cell? _ _ k3) (fun e => n3 (by injection e))]; exact k3
                      · rw [hgrow2.cell_far ⟨b5, 0, none⟩ (World.block_lt_of_cell? _ _ k5) (fun e => n5 (by injection e))]; exact k5
                      · rw [hgrow2.cell_far ⟨b2, 0, none⟩ (World.block_lt_of_cell? _ _ k2) (fun e => n2 (by injection e))]; exact k2
                    case measure => simp [intOf]; omega
                  · have HV : Hid (c = 5) := Lib.hid (by rw [← HT.out, HS.out, decide_eq_true hs0, hv]; rfl)
                    have CF := Lib.hid (seen_dup (s := ⟨nm, lo, hi⟩) hsz _ k3 k5 k2 hs0 (by simp; omega) n5 n2 (by omega) (hown.alloc _) HD.out hv)
                    unfold snV at CF
                    clear hs0 hv HS
                    go_wp2_with (go_at_call 73; refine Calls.mono CF.out ?_; rintro e w2 ⟨rfl, hb2⟩)
                    go_ret
                    exact ⟨ret_int HV.out.symm, HBA.out.trans (hb2.mono (by simp; omega))⟩
                · have HV : Hid (c = snCode ⟨nm, lo, hi⟩) := Lib.hid (by rw [← HT.out, HS.out, decide_eq_false hs0]; rfl)
                  obtain ⟨y, hy⟩ : ∃ y, snCode ⟨nm, lo, hi⟩ = y := ⟨_, rfl⟩
                  have CF := Lib.hid (seen_err (ns := []) (D := D) (n := 0) (s := ⟨nm, lo, hi⟩) hsz _ k3 k5 k2 hy (by rw [← hy]; exact hs0))
                  rw [hy] at HV hs0
                  have hyb : (y == 0) = false := beq_eq_false_iff_ne.2 hs0
                  have hyb' : (y != 0) = true := bne_iff_ne.2 hs0
                  unfold snV at CF
                  clear hy HS
                  go_wp2_with (go_at_call 73; refine Calls.mono CF.out ?_; rintro e w2 ⟨rfl, hb2⟩)
                  go_ret
                  exact ⟨ret_int HV.out.symm, HBA.out.trans (hb2.mono (by simp; omega))⟩
              · have HV : Hid (c = 0) := Lib.hid (by rw [← HT.out, snFrom_end (by omega)])
                have hk' : k = m := by omega
                subst hk'
                go_wp2
                go_roundw
                case rel => exact .inr ⟨rfl, HV, HB.out⟩
                case measure => simp [intOf]
          · go_wp2
            go_ret
            exact ⟨ret_int h0.out.symm, hbe⟩
set_option maxHeartbeats 2000000 in
theorem checkSeasons_any {l : List Sn} {S : Option Addr} {c : Int} {m d : Nat} (hc : snsCode l = c) (hmm : m ≤ maxLen) (w : World) (hS : SnRow w S m l) :
    Calls Try.prog 13 #[.slice S m d] w fun e w' => e = .returned (.int .i64 c) ∧ Below w.heap.size w w' := by
  have HSR := Lib.hid hS
  have NA := Lib.hid (named_any w)
  clear hS
  go_enter Try.func13, Try.ntmps13
  go_wp2_with (go_at_call 46; refine Calls.mono NA.out ?_; rintro e w1 ⟨rfl, x2, x3, x5, hown1, hsz1, hb1⟩; have CF := Lib.hid (checkListsS_any (c := c) (S := S) (d := d) (lb := w1.heap.size) (lc := 1) hc hmm (w1.alloc (.cells #[.slice S m d] 23)) (HSR.out.below (hb1.alloc (by omega) _)) (by rw [World.cell?_alloc_new]; rfl) ((((Below.refl w1.heap.size w1).alloc (Nat.le_refl _) _).cell (p := ⟨w.heap.size + 1, 0, none⟩) (by show w.heap.size + 1 < _; omega)).trans x3) ((((Below.refl w1.heap.size w1).alloc (Nat.le_refl _) _).cell (p := ⟨w.heap.size + 1 + 1 + 1, 0, none⟩) (by show w.heap.size + 1 + 1 + 1 < _; omega)).trans x5) ((((Below.refl w1.heap.size w1).alloc (Nat.le_refl _) _).cell (p := ⟨w.heap.size, 0, none⟩) (by show w.heap.size < _; omega)).trans x2) (fun hpos blk off he => by
    obtain ⟨blk', off', he', hlt, -⟩ := HSR.out.2 hpos
    rw [he] at he'
    simp only [Option.some.injEq, Addr.mk.injEq] at he'
    omega) (by omega) (by omega) (by omega) (by omega) (hown1.alloc _)))
  have CF1 := CF.out
  go_at_call 45
  refine Calls.mono CF1 ?_
  rintro e w3 ⟨rfl, hb3⟩
  go_wp2
  go_ret
  exact ⟨rfl, (hb1.alloc (by omega) _).trans (hb3.mono (by omega))⟩
end Go.Proofs.Ytffmaoalnilkkaa
