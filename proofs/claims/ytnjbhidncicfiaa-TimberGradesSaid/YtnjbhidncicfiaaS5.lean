/- Walks over the timber seat: species by name. -/
import Derived.Test.YtnjbhidncicfiaaS4
import Derived.Test.YtnjbhidncicfiaaS1
namespace Go.Proofs.Ytnjbhidncicfiaa
open Go.RowKit Go.Maps

/-- What a species' list, accepted up to number k, is like. -/
theorem sp_code_rec (s : Sp) : spCode ⟨s.nm, s.al, s.ac, s.ra, s.de, s.st, s.sr⟩ = spCode s := rfl
theorem name_le {s : ByteArray} (h : nameB s = true) : s.size ≤ 12 := by
  unfold nameB at h
  rw [Bool.and_eq_true, Bool.and_eq_true] at h
  exact of_decide_eq_true h.2.1
/-- A look-up, as an equation for the walk. -/
theorem look_names {w : World} {b n : Nat} {D : DataW Unit} {nm : ByteArray} {v : Bool} (hown : w.ownsMap Try.prog 9 (plainElem Try.prog 3) b n D) (hsz : nm.size ≤ maxLen) (hh : Maps.has D (keyL nm) = v) :
    ∃ x : Int, (Instr.lookup 126 (.map (some b)) (.string nm) true).run Try.prog w = .ok (.tuple #[.int .i64 x, .bool v]) w ∧ D.atKey (keyL nm) (.lit (.int .i64 0)) = .lit (.int .i64 x) := by
  obtain ⟨y, ps, hrun, hv⟩ := hown.look_ok lawS Try.underlying126 (zero3 w) (plainElem_int Try.underlying3 (by decide)) (WideMaps.keyOf_string_mk Try.underlying9 hsz)
  obtain ⟨x, rfl, hx, -⟩ := plainElem_int_inv Try.underlying3 hv
  simp only [Prod.mk.injEq] at hx
  exact ⟨x, by rw [hrun, show Maps.has D (Lit.string nm.data.toList) = v from hh], hx.1⟩
set_option maxHeartbeats 4000000 in
set_option maxRecDepth 20000 in
theorem byName_any {A : Option Addr} {n cp : Nat} {l : List Sp} {c : Int} (hc : spsCode l = c) (w : World) (hl : SpRow w A n l) (hn : n ≤ maxLen) :
    Calls Try.prog 74 #[.slice A n cp] w fun e w' => ((c ≠ 0 ∧ e = .returned (.tuple #[.map none, .int .i64 c])) ∨ (c = 0 ∧ ∃ b D, e = .returned (.tuple #[.map (some b), .int .i64 0]) ∧ w'.ownsMap Try.prog 9 (plainElem Try.prog 3) b n D ∧ NamesOf D l n)) ∧ Below w.heap.size w w' := by
  obtain ⟨hlen, hrow⟩ := hl
  have hn' : n ≤ 9223372036854775807 := hn
  have HROW := Lib.hid hrow
  clear hrow
  by_cases h40 : 40 < n
  · have HC : Hid (c = 8) := Lib.hid (by rw [← hc]; unfold spsCode; rw [decide_eq_true (by omega)]; rfl)
    clear hc
    have hd : decide (40 < (n : Int)) = true := decide_eq_true (by omega)
    go_enter Try.func74, Try.ntmps74
    go_wp2
    go_ret2
    exact ⟨.inl ⟨by rw [HC.out]; decide, by rw [HC.out]; rfl⟩, Below.refl _ _⟩
  · have HC : Hid (spFrom l (l.length - 0) 0 = c) := Lib.hid (by rw [← hc]; unfold spsCode; rw [decide_eq_false (by omega)]; rfl)
    clear hc
    have hd : decide (40 < (n : Int)) = false := decide_eq_false (by omega)
    have hmk := @run_makeMap Try.prog
    go_enter Try.func74, Try.ntmps74
    go_wp2
    go_loopw [16] (fun i wr => ∃ k : Nat, k ≤ n ∧ spFrom l (l.length - k) k = c ∧ i = .int .i64 k ∧ (∃ D, wr.ownsMap Try.prog 9 (plainElem Try.prog 3) w.heap.size k D ∧ NamesOf D l k) ∧ Below w.heap.size w wr) (fun i _ => n - (intOf i).toNat)
    case atStart => exact ⟨0, Nat.zero_le _, HC.out, rfl, ⟨_, World.ownsMap_made _ _ _ _, namesOf_zero l⟩, (Below.refl _ _).alloc (Nat.le_refl _) _⟩
    case round =>
      obtain ⟨k, hk, ht, rfl, ⟨D, hown, hnames⟩, hbw⟩ := hrel
      have HT := Lib.hid ht
      have HB := Lib.hid hbw
      have HN := Lib.hid hnames
      clear ht hnames
      by_cases hlt : k < n
      · have hkl : k < l.length := by omega
        obtain ⟨blk, off, rfl, hblk, hx⟩ := HROW.out (by omega)
        have hxx := (hx k hkl).below hbw hblk
        have HS := Lib.hid (sp_from hkl)
        have NS := Lib.hid (fun h => HN.out.succ hkl h)
        have HH := HN.out.has l[k].nm
        clear hx
        obtain ⟨s, hs⟩ : ∃ s, l[k] = s := ⟨_, rfl⟩
        rw [hs] at hxx HS NS HH
        clear hs hbw
        obtain ⟨nm, al, ac, ra, de, st, sr⟩ := s
        obtain ⟨c0, c1, c2, c3, c4, c5, c6, hsz⟩ := hxx
        simp only at c0 c1 c2 c3 c4 c5 c6 hsz HH
        have hbr : blk < wr.heap.size := Nat.lt_of_lt_of_le hblk HB.out.size
        by_cases hs0 : spCode ⟨nm, al, ac, ra, de, st, sr⟩ = 0
        · have CO := fun wx => Lib.hid (checkOne_any (w := wx) hs0 hsz)
          have HS2 : Hid (c = bif decide (findFrom 0 nm (l.take k) = -1) then spFrom l (l.length - (k + 1)) (k + 1) else 5) := Lib.hid (by rw [← HT.out, HS.out, decide_eq_true hs0]; rfl)
          cases hf : decide (findFrom 0 nm (l.take k) = -1)
          · have HV : Hid (c = 5) := Lib.hid (by rw [HS2.out, hf]; rfl)
            have hh : Maps.has D (keyL nm) = true := by rw [HH, hf]; rfl
            clear hs0 hf HH
            go_wp2_with (go_at_call 78; (refine Calls.mono (CO _).out ?_); rintro e w1 ⟨rfl, hb1⟩; have hs1 : wr.heap.size < w1.heap.size := (by have := hb1.size; (try simp at this); omega); have hBW1 : Below wr.heap.size wr w1 := (((Below.refl wr.heap.size wr).alloc (Nat.le_refl _) _).trans (hb1.mono (by first | omega | simp))); obtain ⟨hc1, hf1⟩ := bcell hb1; obtain ⟨x, hlook, hatx⟩ := look_names (hown.kept (below_grown hBW1 none) (by simp)) hsz hh)
            go_ret2
            exact ⟨.inl ⟨by rw [HV.out]; decide, by rw [HV.out]; rfl⟩, HB.out.trans (hBW1.mono HB.out.size)⟩
          · have HV : Hid (spFrom l (l.length - (k + 1)) (k + 1) = c) := Lib.hid (by rw [HS2.out, hf]; rfl)
            have hh : Maps.has D (keyL nm) = false := by rw [HH, hf]; rfl
            have NX := Lib.hid (NS.out (of_decide_eq_true hf))
            clear hs0 hf HH
            go_wp2_with (first | (go_at_call 78; (refine Calls.mono (CO _).out ?_); rintro e w1 ⟨rfl, hb1⟩; have hs1 : wr.heap.size < w1.heap.size := (by have := hb1.size; (try simp at this); omega); have hBW1 : Below wr.heap.size wr w1 := (((Below.refl wr.heap.size wr).alloc (Nat.le_refl _) _).trans (hb1.mono (by first | omega | simp))); obtain ⟨hc1, hf1⟩ := bcell hb1; have hown1 := hown.kept (below_grown hBW1 none) (by simp); obtain ⟨x, hlook, hatx⟩ := look_names hown1 hsz hh) | (at_mapUpdate; refine wpList_mapUpdate_own _ rfl _ _ _ 126 rfl 9 3 lawS Try.underlying126 _ w.heap.size k D rfl hown1 (by unfold maxLen; omega) _ _ _ rfl rfl (WideMaps.keyOf_string_mk Try.underlying9 hsz) _ [] (plainElem_int Try.underlying3 (WalkArith.wf_i64 (by omega))) ?_; intro w2 hown2 hgrow2))
            go_roundw
            case rel =>
              have hx := HB.out.trans (hBW1.mono HB.out.size)
              exact ⟨k + 1, by omega, HV.out, by go_num, ⟨_, hown2, NX.out⟩, hx.grown hgrow2 hx.size (fun j hj => by cases hj; exact Nat.le_refl _)⟩
            case measure => simp [intOf]; omega
        · have CO := fun wx => Lib.hid (checkOne_any (nm := nm) (al := al) (ac := ac) (ra := ra) (de := de) (st := st) (sr := sr) (w := wx) rfl hsz)
          have HV : Hid (c = spCode ⟨nm, al, ac, ra, de, st, sr⟩) := Lib.hid (by rw [← HT.out, HS.out, decide_eq_false hs0]; rfl)
          obtain ⟨y, hy⟩ : ∃ y, spCode ⟨nm, al, ac, ra, de, st, sr⟩ = y := ⟨_, rfl⟩
          rw [hy] at hs0 HV
          simp only [hy] at CO
          clear hy HH
          have hyb : (y == 0) = false := beq_eq_false_iff_ne.2 hs0
          go_wp2_with (go_at_call 78; (refine Calls.mono (CO _).out ?_); rintro e w1 ⟨rfl, hb1⟩; have hs1 : wr.heap.size < w1.heap.size := (by have := hb1.size; (try simp at this); omega); have hBW1 : Below wr.heap.size wr w1 := (((Below.refl wr.heap.size wr).alloc (Nat.le_refl _) _).trans (hb1.mono (by first | omega | simp))); obtain ⟨hc1, hf1⟩ := bcell hb1)
          go_ret2
          exact ⟨.inl ⟨by rw [HV.out]; exact hs0, by rw [HV.out]; rfl⟩, HB.out.trans (hBW1.mono HB.out.size)⟩
      · have hk' : k = n := by omega
        have HV : Hid (c = 0) := Lib.hid (by rw [← HT.out, sp_end (by omega)])
        subst hk'
        go_wp2
        go_ret2
        exact ⟨.inr ⟨HV.out, _, _, rfl, hown, HN.out⟩, HB.out⟩
end Go.Proofs.Ytnjbhidncicfiaa
