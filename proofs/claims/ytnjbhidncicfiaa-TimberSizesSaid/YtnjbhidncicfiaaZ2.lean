/- Walks over the timber seat: sizes of an accepted board. -/
import Derived.Test.YtnjbhidncicfiaaZ1
import Derived.RegionTactic
namespace Go.Proofs.Ytnjbhidncicfiaa
open Go.RowKit Go.Maps

/-- The cells of the sizes after k axes. -/
def szV (ln wd th r0 r1 r2 mo q : Int) (k j : Nat) : Int :=
  if j < 2 * k then (match j with
    | 0 => movedLo ln r0 mo q | 1 => movedHi ln r0 mo q | 2 => movedLo wd r1 mo q | 3 => movedHi wd r1 mo q | 4 => movedLo th r2 mo q | _ => movedHi th r2 mo q) else 0
set_option maxHeartbeats 4000000 in
set_option maxRecDepth 20000 in
theorem sizes_ok {nm sp : ByteArray} {ln wd th cu mo : Int} {D : Option Addr} {dn dc : Nat} {ds : List Rc} {A : Option Addr} {n cp j : Nat} {l : List Sp} {s : Sp} {q r0 r1 r2 : Int} (hc : chkBoard l ⟨nm, sp, ln, wd, th, cu, mo, ds⟩ = 0) (hq : inB 0 400 q = true) (hj : findFrom 0 sp l = j) (hjn : j < n) (hsj : l[j]? = some s)
    (hrate : rateVals s.al s.ac s.ra cu = .agg #[.int .i64 r0, .int .i64 r1, .int .i64 r2]) (m0 : Mov ln r0 mo q) (m1 : Mov wd r1 mo q) (m2 : Mov th r2 mo q) (hn1 : nm.size ≤ maxLen) (hn2 : sp.size ≤ maxLen) (hdn : dn ≤ maxLen) (w : World) (hr : RcRow w D dn ds) (hl : SpRow w A n l) (hn : n ≤ maxLen) :
    Calls Try.prog 40 #[.slice A n cp, .agg #[.string nm, .string sp, .int .i64 ln, .int .i64 wd, .int .i64 th, .int .i64 cu, .int .i64 mo, .slice D dn dc], .int .i64 q] w fun e w' => e = .returned (.tuple #[.agg #[.int .i64 (movedLo ln r0 mo q), .int .i64 (movedHi ln r0 mo q), .int .i64 (movedLo wd r1 mo q), .int .i64 (movedHi wd r1 mo q), .int .i64 (movedLo th r2 mo q), .int .i64 (movedHi th r2 mo q)], .int .i64 0]) ∧ Below w.heap.size w w' := by
  have hBL : Below w.heap.size w ((w.alloc (.cells #[.string nm, .string sp, .int .i64 ln, .int .i64 wd, .int .i64 th, .int .i64 cu, .int .i64 mo, .slice D dn dc] 34)).alloc (.cells #[.int .i64 0, .int .i64 0, .int .i64 0, .int .i64 0, .int .i64 0, .int .i64 0] 68)) := ((Below.refl _ _).alloc (Nat.le_refl _) _).alloc (by simp) _
  have hr1 := RcRow.below hr hBL
  have hl1 := SpRow.below hl hBL
  obtain ⟨hs0, hb0, -⟩ := chk_sp hc
  have S := Lib.hid (speciesOf_ok (cp := cp) (dc := dc) hs0 hb0 hj hjn hsj hn1 hn2 hdn _ hr1 hl1 hn)
  obtain ⟨snm, al, ac, ra, de, st, sr⟩ := s
  unfold spV at S
  simp only at S hrate
  have X := Lib.hid ((allIn_one 0 400 q).trans hq)
  have RO := fun wx => Lib.hid (rateOf_any (nm := snm) (al := al) (ac := ac) (ra := ra) (de := de) (st := st) (sr := sr) cu wx)
  rw [hrate] at RO
  have M0 := fun wx => Lib.hid (moved_any m0 m0 wx)
  have M1 := fun wx => Lib.hid (moved_any m1 m1 wx)
  have M2 := fun wx => Lib.hid (moved_any m2 m2 wx)
  have HBL := Lib.hid hBL
  clear hs0 hb0 hc hr hl hr1 hl1 hj hsj hq hrate m0 m1 m2
  go_enter Try.func40, Try.ntmps40
  go_wp2_with (first | (go_at_call 76; (refine Calls.mono S.out ?_); rintro e w1 ⟨rfl, hb1⟩; rw [w0_size] at hb1; have hs1 : w.heap.size + 1 < w1.heap.size := (by have := hb1.size; (try simp at this); omega); have ht1 : w.heap.size < w1.heap.size := (by omega); obtain ⟨⟨qc0, qc1, qc2, qc3, qc4, qc5⟩, ⟨qf0, qf1, qf2, qf3, qf4, qf5⟩, ⟨qb0, qb1, qb2, qb3, qb4, qb5, qb6, qb7⟩⟩ := z_facts hb1) | (go_at_call 79; (with_reducible refine (within_oneb X.out _ _ (by simp)).mono ?_); rintro e w2 ⟨rfl, hb2⟩; have hs2 : w.heap.size + 1 < w2.heap.size := (by have := hb2.size; (try simp at this); omega); have hs21 : w1.heap.size < w2.heap.size := (by have := hb2.size; (try simp at this); omega); have ht2 : w.heap.size < w2.heap.size := (by omega); obtain ⟨hc2, hf2⟩ := bcell hb2) | (go_at_call 80; (refine Calls.mono (RO _).out ?_); rintro e w3 ⟨rfl, hb3⟩; have hs3 : w.heap.size + 1 < w3.heap.size := (by have := hb3.size; (try simp at this); omega); have ht3 : w.heap.size < w3.heap.size := (by omega); obtain ⟨hc3, hf3⟩ := bcell hb3))
  obtain ⟨V, hV⟩ : ∃ V, w3.heap.size = V := ⟨_, rfl⟩
  have hVw : w.heap.size + 2 ≤ V := by omega
  have hB4 : Below (w.heap.size + 2) ((w.alloc (.cells #[.string nm, .string sp, .int .i64 ln, .int .i64 wd, .int .i64 th, .int .i64 cu, .int .i64 mo, .slice D dn dc] 34)).alloc (.cells #[.int .i64 0, .int .i64 0, .int .i64 0, .int .i64 0, .int .i64 0, .int .i64 0] 68)) ((w3.alloc (.cells #[.int .i64 r0, .int .i64 r1, .int .i64 r2] 72)).alloc (.cells #[.int .i64 0, .int .i64 0, .int .i64 0, .int .i64 0, .int .i64 0, .int .i64 0] 68)) := (((((hb1.alloc (by omega) _).trans (hb2.mono (by simp; omega))).trans (hb3.mono (by omega))).alloc (by omega) _).alloc (by simp; omega) _)
  have hR : ∀ o, ((w3.alloc (.cells #[.int .i64 r0, .int .i64 r1, .int .i64 r2] 72)).alloc (.cells #[.int .i64 0, .int .i64 0, .int .i64 0, .int .i64 0, .int .i64 0, .int .i64 0] 68)).cell? ⟨V, o, none⟩ = (#[Value.int .i64 r0, .int .i64 r1, .int .i64 r2] : Array Value)[o]? := fun o => by rw [← hV]; simp [go_sem]
  have hZ : ∀ o, ((w3.alloc (.cells #[.int .i64 r0, .int .i64 r1, .int .i64 r2] 72)).alloc (.cells #[.int .i64 0, .int .i64 0, .int .i64 0, .int .i64 0, .int .i64 0, .int .i64 0] 68)).cell? ⟨V + 1, o, none⟩ = (#[.int .i64 0, .int .i64 0, .int .i64 0, .int .i64 0, .int .i64 0, .int .i64 0] : Array Value)[o]? := fun o => by rw [← hV]; simp [go_sem]
  have hF : ∀ o, ((w3.alloc (.cells #[.int .i64 r0, .int .i64 r1, .int .i64 r2] 72)).alloc (.cells #[.int .i64 0, .int .i64 0, .int .i64 0, .int .i64 0, .int .i64 0, .int .i64 0] 68)).frozen? ⟨V + 1, o, none⟩ = false := fun o => by rw [← hV]; simp [go_sem]
  have hS : V + 1 < ((w3.alloc (.cells #[.int .i64 r0, .int .i64 r1, .int .i64 r2] 72)).alloc (.cells #[.int .i64 0, .int .i64 0, .int .i64 0, .int .i64 0, .int .i64 0, .int .i64 0] 68)).heap.size := by rw [← hV]; simp
  rw [hV]
  generalize hW : (w3.alloc _).alloc _ = W4
  rw [hW] at hB4 hR hZ hF hS
  have HB4 := Lib.hid hB4
  have HST := Lib.hid (And.intro hR (And.intro hZ (And.intro hF hS)))
  clear hW hV hb1 hb2 hb3 hs1 ht1 hs2 hs21 ht2 hs3 ht3 hc2 hc3 hf2 hf3 hB4 hR hZ hF hS qc0 qc1 qc2 qc3 qc4 qc5 qf0 qf1 qf2 qf3 qf4 qf5 qb0 qb1 qb2 qb3 qb4 qb5 qb6 qb7
  go_loopw [40] (fun i wr => ∃ k : Nat, k ≤ 3 ∧ i = .int .i64 k ∧ Below (w.heap.size + 2) ((w.alloc (.cells #[.string nm, .string sp, .int .i64 ln, .int .i64 wd, .int .i64 th, .int .i64 cu, .int .i64 mo, .slice D dn dc] 34)).alloc (.cells #[.int .i64 0, .int .i64 0, .int .i64 0, .int .i64 0, .int .i64 0, .int .i64 0] 68)) wr ∧ (wr.cell? ⟨V, 0, none⟩ = some (.int .i64 r0) ∧ wr.cell? ⟨V, 1, none⟩ = some (.int .i64 r1) ∧ wr.cell? ⟨V, 2, none⟩ = some (.int .i64 r2)) ∧ (wr.cell? ⟨V + 1, 0, none⟩ = some (.int .i64 (szV ln wd th r0 r1 r2 mo q k 0)) ∧ wr.cell? ⟨V + 1, 1, none⟩ = some (.int .i64 (szV ln wd th r0 r1 r2 mo q k 1)) ∧ wr.cell? ⟨V + 1, 2, none⟩ = some (.int .i64 (szV ln wd th r0 r1 r2 mo q k 2)) ∧ wr.cell? ⟨V + 1, 3, none⟩ = some (.int .i64 (szV ln wd th r0 r1 r2 mo q k 3)) ∧ wr.cell? ⟨V + 1, 4, none⟩ = some (.int .i64 (szV ln wd th r0 r1 r2 mo q k 4)) ∧ wr.cell? ⟨V + 1, 5, none⟩ = some (.int .i64 (szV ln wd th r0 r1 r2 mo q k 5))) ∧ (wr.frozen? ⟨V + 1, 0, none⟩ = false ∧ wr.frozen? ⟨V + 1, 1, none⟩ = false ∧ wr.frozen? ⟨V + 1, 2, none⟩ = false ∧ wr.frozen? ⟨V + 1, 3, none⟩ = false ∧ wr.frozen? ⟨V + 1, 4, none⟩ = false ∧ wr.frozen? ⟨V + 1, 5, none⟩ = false) ∧ V + 1 < wr.heap.size) (fun i _ => 3 - (intOf i).toNat)
  case atStart => exact ⟨0, by omega, rfl, HB4.out, ⟨HST.out.1 0, HST.out.1 1, HST.out.1 2⟩, ⟨HST.out.2.1 0, HST.out.2.1 1, HST.out.2.1 2, HST.out.2.1 3, HST.out.2.1 4, HST.out.2.1 5⟩, ⟨HST.out.2.2.1 0, HST.out.2.2.1 1, HST.out.2.2.1 2, HST.out.2.2.1 3, HST.out.2.2.1 4, HST.out.2.2.1 5⟩, HST.out.2.2.2⟩
  case round =>
    obtain ⟨k, hk, rfl, hbw, ⟨rc0, rc1, rc2⟩, ⟨zc0, zc1, zc2, zc3, zc4, zc5⟩, ⟨zf0, zf1, zf2, zf3, zf4, zf5⟩, hVr⟩ := hrel
    have HB := Lib.hid hbw
    obtain ⟨-, -, ⟨-, -, -, -, -, -, qb6, -⟩⟩ := z_facts hbw
    have HZF := Lib.hid (z_facts hbw)
    have hwr2 : w.heap.size + 1 < wr.heap.size := by omega
    clear hbw
    have i0 := run_index72 ln wd th _ _ (.inl ⟨rfl, rfl⟩)
    have i1 := run_index72 ln wd th _ _ (.inr (.inl ⟨rfl, rfl⟩))
    have i2 := run_index72 ln wd th _ _ (.inr (.inr ⟨rfl, rfl⟩))
    obtain rfl | rfl | rfl | rfl : k = 0 ∨ k = 1 ∨ k = 2 ∨ k = 3 := by omega
    · simp [szV] at zc0 zc1 zc2 zc3 zc4 zc5
      go_wp2
      go_region_with (go_at_call 84; refine Calls.mono (M0 _).out ?_; rintro e w' ⟨rfl, hbx⟩; have a0 := (hbx.cell (p := ⟨V + 1, 0, none⟩) hVr).trans zc0; have a1 := (hbx.cell (p := ⟨V + 1, 1, none⟩) hVr).trans zc1; have b0 := (hbx.frozen (p := ⟨V + 1, 0, none⟩) hVr).trans zf0; have b1 := (hbx.frozen (p := ⟨V + 1, 1, none⟩) hVr).trans zf1)
      all_goals
        have rr0 := (hbx.cell (p := ⟨V, 0, none⟩) (show V < wr.heap.size by omega)).trans rc0
        have rr1 := (hbx.cell (p := ⟨V, 1, none⟩) (show V < wr.heap.size by omega)).trans rc1
        have rr2 := (hbx.cell (p := ⟨V, 2, none⟩) (show V < wr.heap.size by omega)).trans rc2
        have zz0 := (hbx.cell (p := ⟨V + 1, 0, none⟩) hVr).trans zc0
        have ff0 := (hbx.frozen (p := ⟨V + 1, 0, none⟩) hVr).trans zf0
        have zz1 := (hbx.cell (p := ⟨V + 1, 1, none⟩) hVr).trans zc1
        have ff1 := (hbx.frozen (p := ⟨V + 1, 1, none⟩) hVr).trans zf1
        have zz2 := (hbx.cell (p := ⟨V + 1, 2, none⟩) hVr).trans zc2
        have ff2 := (hbx.frozen (p := ⟨V + 1, 2, none⟩) hVr).trans zf2
        have zz3 := (hbx.cell (p := ⟨V + 1, 3, none⟩) hVr).trans zc3
        have ff3 := (hbx.frozen (p := ⟨V + 1, 3, none⟩) hVr).trans zf3
        have zz4 := (hbx.cell (p := ⟨V + 1, 4, none⟩) hVr).trans zc4
        have ff4 := (hbx.frozen (p := ⟨V + 1, 4, none⟩) hVr).trans zf4
        have zz5 := (hbx.cell (p := ⟨V + 1, 5, none⟩) hVr).trans zc5
        have ff5 := (hbx.frozen (p := ⟨V + 1, 5, none⟩) hVr).trans zf5
        have hsz : wr.heap.size ≤ w'.heap.size := hbx.size
        have HBX := Lib.hid (show Below (w.heap.size + 2) ((w.alloc (.cells #[.string nm, .string sp, .int .i64 ln, .int .i64 wd, .int .i64 th, .int .i64 cu, .int .i64 mo, .slice D dn dc] 34)).alloc (.cells #[.int .i64 0, .int .i64 0, .int .i64 0, .int .i64 0, .int .i64 0, .int .i64 0] 68)) w' from HB.out.trans (Below.mono (show Below wr.heap.size wr w' from ⟨hbx.os, hbx.tape, hbx.output, hbx.size, hbx.block⟩) (by omega)))
        clear zc0 zc1 zc2 zc3 zc4 zc5 zf0 zf1 zf2 zf3 zf4 zf5 rc0 rc1 rc2 hbx
        go_wp2
        go_roundw
        case rel =>
          refine ⟨1, by omega, by go_num, (HBX.out.setCell (p := ⟨V + 1, 0, none⟩) (by simp; omega) _).setCell (p := ⟨V + 1, 1, none⟩) (by simp; omega) _, ⟨?_, ?_, ?_⟩, ⟨?_, ?_, ?_, ?_, ?_, ?_⟩, ⟨?_, ?_, ?_, ?_, ?_, ?_⟩, ?_⟩
          all_goals first | (simp [go_sem, szV, *]; done) | (simp [go_sem]; omega)
        case measure => simp [intOf]
    · simp [szV] at zc0 zc1 zc2 zc3 zc4 zc5
      go_wp2
      go_region_with (go_at_call 84; refine Calls.mono (M1 _).out ?_; rintro e w' ⟨rfl, hbx⟩; have a0 := (hbx.cell (p := ⟨V + 1, 2, none⟩) hVr).trans zc2; have a1 := (hbx.cell (p := ⟨V + 1, 3, none⟩) hVr).trans zc3; have b0 := (hbx.frozen (p := ⟨V + 1, 2, none⟩) hVr).trans zf2; have b1 := (hbx.frozen (p := ⟨V + 1, 3, none⟩) hVr).trans zf3)
      all_goals
        have rr0 := (hbx.cell (p := ⟨V, 0, none⟩) (show V < wr.heap.size by omega)).trans rc0
        have rr1 := (hbx.cell (p := ⟨V, 1, none⟩) (show V < wr.heap.size by omega)).trans rc1
        have rr2 := (hbx.cell (p := ⟨V, 2, none⟩) (show V < wr.heap.size by omega)).trans rc2
        have zz0 := (hbx.cell (p := ⟨V + 1, 0, none⟩) hVr).trans zc0
        have ff0 := (hbx.frozen (p := ⟨V + 1, 0, none⟩) hVr).trans zf0
        have zz1 := (hbx.cell (p := ⟨V + 1, 1, none⟩) hVr).trans zc1
        have ff1 := (hbx.frozen (p := ⟨V + 1, 1, none⟩) hVr).trans zf1
        have zz2 := (hbx.cell (p := ⟨V + 1, 2, none⟩) hVr).trans zc2
        have ff2 := (hbx.frozen (p := ⟨V + 1, 2, none⟩) hVr).trans zf2
        have zz3 := (hbx.cell (p := ⟨V + 1, 3, none⟩) hVr).trans zc3
        have ff3 := (hbx.frozen (p := ⟨V + 1, 3, none⟩) hVr).trans zf3
        have zz4 := (hbx.cell (p := ⟨V + 1, 4, none⟩) hVr).trans zc4
        have ff4 := (hbx.frozen (p := ⟨V + 1, 4, none⟩) hVr).trans zf4
        have zz5 := (hbx.cell (p := ⟨V + 1, 5, none⟩) hVr).trans zc5
        have ff5 := (hbx.frozen (p := ⟨V + 1, 5, none⟩) hVr).trans zf5
        have hsz : wr.heap.size ≤ w'.heap.size := hbx.size
        have HBX := Lib.hid (show Below (w.heap.size + 2) ((w.alloc (.cells #[.string nm, .string sp, .int .i64 ln, .int .i64 wd, .int .i64 th, .int .i64 cu, .int .i64 mo, .slice D dn dc] 34)).alloc (.cells #[.int .i64 0, .int .i64 0, .int .i64 0, .int .i64 0, .int .i64 0, .int .i64 0] 68)) w' from HB.out.trans (Below.mono (show Below wr.heap.size wr w' from ⟨hbx.os, hbx.tape, hbx.output, hbx.size, hbx.block⟩) (by omega)))
        clear zc0 zc1 zc2 zc3 zc4 zc5 zf0 zf1 zf2 zf3 zf4 zf5 rc0 rc1 rc2 hbx
        go_wp2
        go_roundw
        case rel =>
          refine ⟨2, by omega, by go_num, (HBX.out.setCell (p := ⟨V + 1, 2, none⟩) (by simp; omega) _).setCell (p := ⟨V + 1, 3, none⟩) (by simp; omega) _, ⟨?_, ?_, ?_⟩, ⟨?_, ?_, ?_, ?_, ?_, ?_⟩, ⟨?_, ?_, ?_, ?_, ?_, ?_⟩, ?_⟩
          all_goals first | (simp [go_sem, szV, *]; done) | (simp [go_sem]; omega)
        case measure => simp [intOf]
    · simp [szV] at zc0 zc1 zc2 zc3 zc4 zc5
      go_wp2
      go_region_with (go_at_call 84; refine Calls.mono (M2 _).out ?_; rintro e w' ⟨rfl, hbx⟩; have a0 := (hbx.cell (p := ⟨V + 1, 4, none⟩) hVr).trans zc4; have a1 := (hbx.cell (p := ⟨V + 1, 5, none⟩) hVr).trans zc5; have b0 := (hbx.frozen (p := ⟨V + 1, 4, none⟩) hVr).trans zf4; have b1 := (hbx.frozen (p := ⟨V + 1, 5, none⟩) hVr).trans zf5)
      all_goals
        have rr0 := (hbx.cell (p := ⟨V, 0, none⟩) (show V < wr.heap.size by omega)).trans rc0
        have rr1 := (hbx.cell (p := ⟨V, 1, none⟩) (show V < wr.heap.size by omega)).trans rc1
        have rr2 := (hbx.cell (p := ⟨V, 2, none⟩) (show V < wr.heap.size by omega)).trans rc2
        have zz0 := (hbx.cell (p := ⟨V + 1, 0, none⟩) hVr).trans zc0
        have ff0 := (hbx.frozen (p := ⟨V + 1, 0, none⟩) hVr).trans zf0
        have zz1 := (hbx.cell (p := ⟨V + 1, 1, none⟩) hVr).trans zc1
        have ff1 := (hbx.frozen (p := ⟨V + 1, 1, none⟩) hVr).trans zf1
        have zz2 := (hbx.cell (p := ⟨V + 1, 2, none⟩) hVr).trans zc2
        have ff2 := (hbx.frozen (p := ⟨V + 1, 2, none⟩) hVr).trans zf2
        have zz3 := (hbx.cell (p := ⟨V + 1, 3, none⟩) hVr).trans zc3
        have ff3 := (hbx.frozen (p := ⟨V + 1, 3, none⟩) hVr).trans zf3
        have zz4 := (hbx.cell (p := ⟨V + 1, 4, none⟩) hVr).trans zc4
        have ff4 := (hbx.frozen (p := ⟨V + 1, 4, none⟩) hVr).trans zf4
        have zz5 := (hbx.cell (p := ⟨V + 1, 5, none⟩) hVr).trans zc5
        have ff5 := (hbx.frozen (p := ⟨V + 1, 5, none⟩) hVr).trans zf5
        have hsz : wr.heap.size ≤ w'.heap.size := hbx.size
        have HBX := Lib.hid (show Below (w.heap.size + 2) ((w.alloc (.cells #[.string nm, .string sp, .int .i64 ln, .int .i64 wd, .int .i64 th, .int .i64 cu, .int .i64 mo, .slice D dn dc] 34)).alloc (.cells #[.int .i64 0, .int .i64 0, .int .i64 0, .int .i64 0, .int .i64 0, .int .i64 0] 68)) w' from HB.out.trans (Below.mono (show Below wr.heap.size wr w' from ⟨hbx.os, hbx.tape, hbx.output, hbx.size, hbx.block⟩) (by omega)))
        clear zc0 zc1 zc2 zc3 zc4 zc5 zf0 zf1 zf2 zf3 zf4 zf5 rc0 rc1 rc2 hbx
        go_wp2
        go_roundw
        case rel =>
          refine ⟨3, by omega, by go_num, (HBX.out.setCell (p := ⟨V + 1, 4, none⟩) (by simp; omega) _).setCell (p := ⟨V + 1, 5, none⟩) (by simp; omega) _, ⟨?_, ?_, ?_⟩, ⟨?_, ?_, ?_, ?_, ?_, ?_⟩, ⟨?_, ?_, ?_, ?_, ?_, ?_⟩, ?_⟩
          all_goals first | (simp [go_sem, szV, *]; done) | (simp [go_sem]; omega)
        case measure => simp [intOf]
    · simp [szV] at zc0 zc1 zc2 zc3 zc4 zc5
      obtain ⟨⟨qc0, qc1, qc2, qc3, qc4, qc5⟩, ⟨qf0, qf1, qf2, qf3, qf4, qf5⟩, -⟩ := HZF.out
      go_wp2
      refine bodyPost_ret (v := .tuple #[.agg #[.int .i64 (movedLo ln r0 mo q), .int .i64 (movedHi ln r0 mo q), .int .i64 (movedLo wd r1 mo q), .int .i64 (movedHi wd r1 mo q), .int .i64 (movedLo th r2 mo q), .int .i64 (movedHi th r2 mo q)], .int .i64 0]) (by simp [results, Try.results40, go_sem, qc0, qc1, qc2, qc3, qc4, qc5, hwr2]) rfl ⟨rfl, ?_⟩
      repeat (refine Below.setCell ?_ (by simp) _)
      exact HBL.out.trans (HB.out.mono (by omega))
end Go.Proofs.Ytnjbhidncicfiaa
