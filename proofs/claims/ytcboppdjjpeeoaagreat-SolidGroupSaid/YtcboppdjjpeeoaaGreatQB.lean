/- Walks over the solid seat: a vector turned. -/
import Derived.Test.YtcboppdjjpeeoaaGreatQA
namespace Go.Proofs.YtcboppdjjpeeoaaGreat
open Go.RowKit

set_option maxHeartbeats 4000000 in
set_option maxRecDepth 20000 in
theorem turned_any {k : Nat} (hk : k < 48) {x y z : Int} (hv : nearB x y z = true) (w : World) :
    Calls Tryz.prog 39 #[.agg #[.int .i64 x, .int .i64 y, .int .i64 z], .int .i64 k] w fun e w' => e = .returned (.tuple #[.agg #[.int .i64 ((sgAt k).image ⟨x, y, z⟩).x, .int .i64 ((sgAt k).image ⟨x, y, z⟩).y, .int .i64 ((sgAt k).image ⟨x, y, z⟩).z], .int .i64 0]) ∧ Below w.heap.size w w' := by
  have IA := fun wx => Lib.hid (isTurn_any (a := k) (v := true) (by unfold turnB; simp; omega) wx)
  have WI := fun wx => Lib.hid (within_near hv wx)
  have TU := fun wx => Lib.hid (turns_any wx)
  rw [show (tabI.map (Value.int .i64)).toArray = tabA from rfl] at TU
  obtain ⟨A, hA⟩ : ∃ A, tabA = A := ⟨_, rfl⟩
  rw [hA] at TU
  have hix := fun wx => run_index131 hA hk wx
  have IM := fun wx => Lib.hid (image_any (sg_ok hk).1 (perm_sg hk) hv wx)
  have hsz := tabA_size
  rw [hA] at hsz
  have hki : (k : Int) < 48 := by omega
  have HBL := Lib.hid (show Below w.heap.size w ((w.alloc (.cells #[.int .i64 x, .int .i64 y, .int .i64 z] 76)).alloc (.cells #[.int .i64 0, .int .i64 0, .int .i64 0] 76)) from ((Below.refl _ _).alloc (Nat.le_refl _) _).alloc (by simp) _)
  clear hA hv
  generalize (sgAt k).image ⟨x, y, z⟩ = v at *
  obtain ⟨vx, vy, vz⟩ := v
  unfold sgV at hix IM
  generalize sgAt k = t at *
  go_enter Tryz.func39, Tryz.ntmps39
  go_wp2_with (first | (go_at_call 74; (refine Calls.mono (IA _).out ?_; rintro e w1 ⟨rfl, rfl⟩)) | (go_at_call 50; (refine Calls.mono (WI _).out ?_; rintro e w1 ⟨rfl, hb1⟩; have hs1 : w.heap.size + 1 < w1.heap.size := (by have := hb1.size; (try simp at this); omega); have ht1 : w.heap.size < w1.heap.size := (by omega); obtain ⟨hc1, hf1⟩ := bcell hb1)))
  go_region_with (first | (go_at_call 75; (refine Calls.mono (TU _).out ?_); rintro e w2 ⟨rfl, hq2⟩; have hb2 := (show Below _ _ w2 from by first | exact hb1.trans (hq2.mono hb1.size) | exact hb1.drew.trans (hq2.mono hb1.size)); have hs2 : w.heap.size + 1 < w2.heap.size := (by have := hb2.size; (try simp at this); omega); have ht2 : w.heap.size < w2.heap.size := (by omega); obtain ⟨hc2, hf2⟩ := bcell hb2) | (go_at_call 78; (refine Calls.mono (IM _).out ?_); rintro e w3 ⟨rfl, hq3⟩; have hb3 := (show Below _ _ w3 from by first | exact hb2.trans (hq3.mono hb2.size) | exact hb2.drew.trans (hq3.mono hb2.size)); have hs3 : w.heap.size + 1 < w3.heap.size := (by have := hb3.size; (try simp at this); omega); have ht3 : w.heap.size < w3.heap.size := (by omega); obtain ⟨hc3, hf3⟩ := bcell hb3))
  all_goals
    have hB3 : Below w.heap.size w w3 := HBL.out.trans (hb3.mono (by simp; omega))
    go_wp2
    refine bodyPost_ret (by simp [results, Tryz.results39, go_sem, hs3, ht3, hc3, hf3]) rfl ⟨rfl, ?_⟩
    repeat first | exact hB3 | exact hB3.drew | refine Below.drew ?_ | refine Below.setCell ?_ (by simp) _
end Go.Proofs.YtcboppdjjpeeoaaGreat
