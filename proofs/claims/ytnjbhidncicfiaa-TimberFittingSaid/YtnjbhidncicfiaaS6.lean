/- Walks over the timber seat: TimberSpecies. -/
import Derived.Test.YtnjbhidncicfiaaS5
import Derived.Test.YtnjbhidncicfiaaW3
import Derived.Test.YtnjbhidncicfiaaT2
import Derived.Test.YtnjbhidncicfiaaS3
namespace Go.Proofs.Ytnjbhidncicfiaa
open Go.RowKit Go.Maps

theorem quiet_left {P : Program} {f : FuncId} {args : Array Value} {w : World} {n : Nat} {v : Value}
    (h : Calls P f args (w.drewN n) fun e w' => e = .returned v ∧ w.drewN n = w') : Calls P f args (w.drewN n) fun e w' => e = .returned v ∧ ∃ m, w' = w.drewN m :=
  h.mono fun _ _ ⟨he, hm⟩ => ⟨he, n, hm.symm⟩
theorem byName_err {A : Option Addr} {n cp : Nat} {l : List Sp} {c : Int} (hc : spsCode l = c) (hne : c ≠ 0) (w : World) (hl : SpRow w A n l) (hn : n ≤ maxLen) :
    Calls Try.prog 74 #[.slice A n cp] w fun e w' => e = .returned (.tuple #[.map none, .int .i64 c]) ∧ Below w.heap.size w w' :=
  (byName_any hc w hl hn).mono fun e w' ⟨h, hb⟩ => by
    rcases h with ⟨-, h⟩ | ⟨h0, -⟩
    · exact ⟨h, hb⟩
    · exact absurd h0 hne
theorem byName_ok {A : Option Addr} {n cp : Nat} {l : List Sp} (hc : spsCode l = 0) (w : World) (hl : SpRow w A n l) (hn : n ≤ maxLen) :
    Calls Try.prog 74 #[.slice A n cp] w fun e w' => ∃ b, e = .returned (.tuple #[.map (some b), .int .i64 0]) ∧ (∃ D, w'.ownsMap Try.prog 9 (plainElem Try.prog 3) b n D ∧ NamesOf D l n) ∧ Below w.heap.size w w' :=
  (byName_any hc w hl hn).mono fun e w' ⟨h, hb⟩ => by
    rcases h with ⟨h0, -⟩ | ⟨-, b, D, h, h1, h2⟩
    · exact absurd rfl h0
    · exact ⟨b, h, ⟨D, h1, h2⟩, hb⟩
/-- What a name's number is, as a pair with its error. -/
def findT (l : List Sp) (nm : ByteArray) : Value := bif decide (findFrom 0 nm l = -1) then .tuple #[.int .i64 0, .int .i64 6] else .tuple #[.int .i64 (findFrom 0 nm l), .int .i64 0]
set_option maxHeartbeats 4000000 in
set_option maxRecDepth 20000 in
theorem find_err {A : Option Addr} {n cp : Nat} {l : List Sp} {nm : ByteArray} {c : Int} (hc : spsCode l = c) (hne : c ≠ 0) (w : World) (hl : SpRow w A n l) (hn : n ≤ maxLen) :
    Calls Try.prog 20 #[.slice A n cp, .string nm] w fun e w' => e = .returned (.tuple #[.int .i64 0, .int .i64 c]) ∧ Below w.heap.size w w' := by
  have B := Lib.hid (byName_err (cp := cp) hc hne w hl hn)
  have hb0 : (c == 0) = false := beq_eq_false_iff_ne.2 hne
  clear hc hl
  go_enter Try.func20, Try.ntmps20
  go_wp2_with (go_at_call 74; (refine Calls.mono B.out ?_); rintro e w1 ⟨rfl, hb1⟩)
  go_ret2
  exact ⟨rfl, hb1⟩
set_option maxHeartbeats 4000000 in
set_option maxRecDepth 20000 in
theorem find_ok {A : Option Addr} {n cp : Nat} {l : List Sp} {nm : ByteArray} (hc : spsCode l = 0) (hsz : nm.size ≤ maxLen) (w : World) (hl : SpRow w A n l) (hn : n ≤ maxLen) :
    Calls Try.prog 20 #[.slice A n cp, .string nm] w fun e w' => e = .returned (findT l nm) ∧ Below w.heap.size w w' := by
  have B := Lib.hid (byName_ok (cp := cp) hc w hl hn)
  have htk : l.take n = l := List.take_of_length_le (by have := hl.1; omega)
  clear hc hl
  cases hf : decide (findFrom 0 nm l = -1)
  · have HT : Hid (findT l nm = .tuple #[.int .i64 (findFrom 0 nm l), .int .i64 0]) := Lib.hid (by unfold findT; rw [hf]; rfl)
    have hne : findFrom 0 nm l ≠ -1 := of_decide_eq_false hf
    obtain ⟨r, hr⟩ : ∃ r, findFrom 0 nm l = r := ⟨_, rfl⟩
    rw [hr] at HT
    have HR := Lib.hid hr
    clear hr
    go_enter Try.func20, Try.ntmps20
    go_wp2_with (go_at_call 74; (refine Calls.mono B.out ?_); rintro e w1 ⟨b, rfl, ⟨D, hown, hnm⟩, hb1⟩; ((obtain ⟨x, hlook, hatx⟩ := look_names hown hsz ((hnm.has nm).trans (by rw [htk, hf]; rfl : _ = true)); have HX : Hid (x = r) := Lib.hid (by have h2 := hnm.at_ nm (by rw [htk]; exact hne); rw [hatx, htk, HR.out] at h2; injection h2 with h2; injection h2); clear hatx hnm)))
    go_ret2
    exact ⟨ret_v (by rw [HT.out, ← HX.out]; rfl), hb1⟩
  · have HT : Hid (findT l nm = .tuple #[.int .i64 0, .int .i64 6]) := Lib.hid (by unfold findT; rw [hf]; rfl)
    go_enter Try.func20, Try.ntmps20
    go_wp2_with (go_at_call 74; (refine Calls.mono B.out ?_); rintro e w1 ⟨b, rfl, ⟨D, hown, hnm⟩, hb1⟩; ((obtain ⟨x, hlook, hatx⟩ := look_names hown hsz ((hnm.has nm).trans (by rw [htk, hf]; rfl : _ = false)); clear hatx hnm)))
    go_ret2
    exact ⟨ret_v HT.out.symm, hb1⟩
set_option maxHeartbeats 4000000 in
theorem checkSpecies_any {A : Option Addr} {n cp : Nat} {l : List Sp} {c : Int} (hc : spsCode l = c) (w : World) (hl : SpRow w A n l) (hn : n ≤ maxLen) :
    Calls Try.prog 22 #[.slice A n cp] w fun e w' => e = .returned (.int .i64 c) ∧ Below w.heap.size w w' := by
  have B := Lib.hid (byName_any (cp := cp) hc w hl hn)
  clear hc hl
  go_enter Try.func22, Try.ntmps22
  go_wp2_with (go_at_call 74; (refine Calls.mono B.out ?_); rintro e w1 ⟨⟨-, rfl⟩ | ⟨rfl, b, D, rfl, hown, hnm⟩, hb1⟩)
  all_goals
    go_ret
    exact ⟨rfl, hb1⟩
set_option maxHeartbeats 4000000 in
set_option maxRecDepth 20000 in
theorem rcheckSpecies_any {A : Option Addr} {n cp : Nat} {l : List Sp} {c : Int} (hc : spsCode l = c) (w : World) (hl : SpRow w A n l) (hn : n ≤ maxLen) (hcp : n ≤ cp) :
    Calls Try.prog 21 #[.slice A n cp] w fun e w' => e = .returned (.int .i64 c) ∧ Below w.heap.size w w' := by
  have HW := Lib.hid hl
  obtain ⟨hlen, hrow⟩ := hl
  have hn' : n ≤ 9223372036854775807 := hn
  have HROW := Lib.hid hrow
  clear hrow
  by_cases h40 : 40 < n
  · have HC : Hid (c = 8) := Lib.hid (by rw [← hc]; unfold spsCode; rw [decide_eq_true (by omega)]; rfl)
    clear hc
    have hd : decide (40 < (n : Int)) = true := decide_eq_true (by omega)
    go_enter Try.func21, Try.ntmps21
    go_wp2
    go_ret
    exact ⟨ret_int HC.out.symm, Below.refl _ _⟩
  · have HC : Hid (spFrom l (l.length - 0) 0 = c) := Lib.hid (by rw [← hc]; unfold spsCode; rw [decide_eq_false (by omega)]; rfl)
    clear hc
    have hd : decide (40 < (n : Int)) = false := decide_eq_false (by omega)
    go_enter Try.func21, Try.ntmps21
    go_wp2
    go_loopw [3] (fun i wr => ∃ k : Nat, k ≤ n ∧ spFrom l (l.length - k) k = c ∧ i = .int .i64 k ∧ Below w.heap.size w wr) (fun i _ => n - (intOf i).toNat)
    case atStart => exact ⟨0, Nat.zero_le _, HC.out, rfl, Below.refl _ _⟩
    case round =>
      obtain ⟨k, hk, ht, rfl, hbw⟩ := hrel
      have HT := Lib.hid ht
      have HB := Lib.hid hbw
      clear ht
      by_cases hlt : k < n
      · have hkl : k < l.length := by omega
        have HTK := Lib.hid (RowOf.take HW.out (k := k) (by omega))
        obtain ⟨blk, off, rfl, hblk, hx⟩ := HROW.out (by omega)
        have hxx := (hx k hkl).below hbw hblk
        have HS := Lib.hid (sp_from hkl)
        clear hx
        obtain ⟨s, hs⟩ : ∃ s, l[k] = s := ⟨_, rfl⟩
        rw [hs] at hxx HS
        clear hs hbw
        obtain ⟨nm, al, ac, ra, de, st, sr⟩ := s
        obtain ⟨c0, c1, c2, c3, c4, c5, c6, hsz⟩ := hxx
        simp only at c0 c1 c2 c3 c4 c5 c6 hsz
        have hbr : blk < wr.heap.size := Nat.lt_of_lt_of_le hblk HB.out.size
        by_cases hs0 : spCode ⟨nm, al, ac, ra, de, st, sr⟩ = 0
        · have CO := fun wx => Lib.hid (rspErr_any (w := wx) hs0 hsz)
          have HS2 : Hid (c = bif decide (findFrom 0 nm (l.take k) = -1) then spFrom l (l.length - (k + 1)) (k + 1) else 5) := Lib.hid (by rw [← HT.out, HS.out, decide_eq_true hs0]; rfl)
          obtain ⟨r, hr⟩ : ∃ r, findFrom 0 nm (l.take k) = r := ⟨_, rfl⟩
          have hge := find_ge (l.take k) 0 nm
          rw [hr] at hge HS2
          have FI := fun wx hb (cp : Nat) => Lib.hid (rfind_any (cp := cp) hr wx (RowOf.keep HTK.out (Below.size hb) (fun _ _ _ hlt hx => SpAt.below hx hb hlt)) (by omega))
          clear hs0 hr
          have kk : (k : Int) ≤ (n : Int) := by omega
          have kc : (k : Int) ≤ (cp : Int) := by omega
          have hblk1 := hbr
          go_wp2_with (go_at_call 75; (refine Calls.mono (CO _).out ?_); rintro e w1 ⟨rfl, hb1⟩; have cc : w1.cell? ⟨blk, off + k * 7, none⟩ = some (.string nm) := ((hb1.cell (p := ⟨blk, off + k * 7, none⟩) hbr).trans c0); have hBW := HB.out.trans (hb1.mono HB.out.size))
          go_quiet ((go_at_call 23; exact quiet_left (FI _ (below_drewN hBW _) _).out))
          by_cases h1 : r = -1
          · have HV : Hid (spFrom l (l.length - (k + 1)) (k + 1) = c) := Lib.hid (by rw [HS2.out, decide_eq_true h1]; rfl)
            have hneg : decide (0 ≤ r) = false := decide_eq_false (by omega)
            have hlin : r < 0 := by omega
            clear h1 hge
            go_wp2
            go_roundw
            case rel => exact ⟨k + 1, by omega, HV.out, by go_num, below_drewN hBW _⟩
            case measure => simp [intOf]; omega
          · have HV : Hid (c = 5) := Lib.hid (by rw [HS2.out, decide_eq_false h1]; rfl)
            have hpos : decide (0 ≤ r) = true := decide_eq_true (by omega)
            have hlin : 0 ≤ r := by omega
            clear h1 hge
            go_wp2
            go_ret
            exact ⟨ret_int HV.out.symm, below_drewN hBW _⟩
        · have CO := fun wx => Lib.hid (rspErr_any (nm := nm) (al := al) (ac := ac) (ra := ra) (de := de) (st := st) (sr := sr) (w := wx) rfl hsz)
          have HV : Hid (c = spCode ⟨nm, al, ac, ra, de, st, sr⟩) := Lib.hid (by rw [← HT.out, HS.out, decide_eq_false hs0]; rfl)
          obtain ⟨y, hy⟩ : ∃ y, spCode ⟨nm, al, ac, ra, de, st, sr⟩ = y := ⟨_, rfl⟩
          rw [hy] at hs0 HV
          simp only [hy] at CO
          clear hy
          have hyb : (y == 0) = false := beq_eq_false_iff_ne.2 hs0
          go_wp2_with (go_at_call 75; (refine Calls.mono (CO _).out ?_); rintro e w1 ⟨rfl, hb1⟩)
          go_ret
          exact ⟨ret_int HV.out.symm, HB.out.trans (hb1.mono HB.out.size)⟩
      · have hk' : k = n := by omega
        have HV : Hid (c = 0) := Lib.hid (by rw [← HT.out, sp_end (by omega)])
        subst hk'
        go_wp2
        go_ret
        exact ⟨ret_int HV.out.symm, HB.out⟩
end Go.Proofs.Ytnjbhidncicfiaa
