/- The law of the group, for every two arguments that are arrays of three numbers. -/
import Derived.Test.YtcboppdjjpeeoaaGreatQB
import Derived.Test.YtcboppdjjpeeoaaGreatQC
namespace Go.Proofs.YtcboppdjjpeeoaaGreat
open Go.RowKit Go.Ax

theorem eqA76 (d : Nat) (a b c : Int) : equalA Tryz.prog (d + 2) 76 (.agg [.int .i64 a, .int .i64 b, .int .i64 c]) (.agg [.int .i64 a, .int .i64 b, .int .i64 c]) = some true := by
  rw [h76A]
  simp only [eqFI_eq]
  simp [andO]
set_option maxRecDepth 100000 in
theorem eq76 (a b c : Int) (w : World) : (Op.equalIn 10000 76 (.agg #[.int .i64 a, .int .i64 b, .int .i64 c]) (.agg #[.int .i64 a, .int .i64 b, .int .i64 c])).run Tryz.prog w = .ok true w :=
  equalA_sound (P := Tryz.prog) 20 _ _ _ _ (eqA76 18 a b c) 10000 (by omega) { ρ := fun _ => 0, κ := fun _ => 0, ok := fun _ => False } 0 _ _ w ⟨_, rfl, rfl, rfl, rfl, trivial⟩ ⟨_, rfl, rfl, rfl, rfl, trivial⟩
theorem turnN {k : Nat} (h : k < 48) : turnB k = true := by unfold turnB; simp; omega
theorem turn_nat {t : Int} (h : turnB t = true) : ∃ k : Nat, t = k ∧ k < 48 := by
  unfold turnB at h
  by_cases h0 : 0 ≤ t
  · simp [h0] at h
    exact ⟨t.toNat, by omega, by omega⟩
  · simp [h0] at h
theorem back_le (a : Nat) : ∀ k, backN a k ≤ k
  | 0 => Nat.le_refl _
  | k + 1 => by have := back_le a k; unfold backN; split <;> omega
theorem law_main {a b c : Nat} {x y z : Int} (ha : a < 48) (hb : b < 48) (hc : c < 48) (hv : nearB x y z = true) (w : World) :
    Calls Tryz.prog 7 #[.agg #[.int .i64 a, .int .i64 b, .int .i64 c], .agg #[.int .i64 x, .int .i64 y, .int .i64 z]] w fun e w' => e = .returned (.bool true) ∧ Below w.heap.size w w' := by
  obtain ⟨p, hp, hpl, hps, hpe⟩ := pair_ok ha hb
  obtain ⟨q, hq, hql, hqs, -⟩ := pair_ok hb hc
  obtain ⟨X, hX, -, -, -⟩ := pair_ok hpl hc
  have hY : bothS a q = X := by rw [← hX]; unfold bothS; rw [hqs, hps, comp_assoc (sg_ok hc).1]
  have sg0 : sgAt 0 = oneS := rfl
  have hN : bothS a 0 = a := by unfold bothS; rw [sg0, comp_one]; exact (sg_ok ha).2
  have hM : bothS 0 a = a := by unfold bothS; rw [sg0, one_comp (sg_ok ha).1]; exact (sg_ok ha).2
  have him : (sgAt p).image ⟨x, y, z⟩ = (sgAt b).image ((sgAt a).image ⟨x, y, z⟩) := by rw [hps]; exact (image_comp (sg_ok hb).1 _).symm
  have hpe' : decide ((p : Int) < 24) = (decide ((a : Int) < 24) == decide ((b : Int) < 24)) := by
    have e : ∀ n : Nat, decide ((n : Int) < 24) = decide (n < 24) := fun n => by rw [decide_eq_decide]; omega
    rw [e, e, e]; exact hpe
  have F := fun wx => far_any (x := x) (y := y) (z := z) wx
  rw [hv, Bool.not_true] at F
  have T3 := fun wx => turned_any hpl hv wx
  rw [him] at T3
  refine walk_main (tp := p) (tq := q) (tx := X) (w := w) awake_any _ _ rfl rfl hpe' (fun wx => F wx) (fun wx => both_any ha hb hp wx) (fun wx => both_any hb hc hq wx) (fun wx => both_any hpl hc hX wx) (fun wx => both_any ha hql hY wx)
    (fun wx => both_any (b := 0) ha (by omega) hN wx) (fun wx => both_any (a := 0) (by omega) ha hM wx)
    (fun k => (backN a k : Int)) (fun k => bothS a k) (fun k => ⟨Int.natCast_nonneg _, Int.ofNat_le.2 (back_le a k)⟩) rfl ?_ ?_
    (fun wx => turned_any ha hv wx) (fun wx => turned_any hb (image_near (sg_ok ha).1 (v := ⟨x, y, z⟩) hv) wx) (fun wx => T3 wx) (fun a b c wx => eq76 a b c wx)
    (fun k hk wx => both_any ha hk (v := bothS a k) rfl wx) (fun wx => rturn_any (turnN ha) wx) (fun wx => rturn_any (turnN hb) wx) (fun wx => rturn_any (turnN hc) wx) (fun wx => rturn_any (turnN hpl) wx) (fun wx => rturn_any (turnN hql) wx)
  · intro k
    show ((backN a (k + 1) : Nat) : Int) = if bothS a k = 0 then (backN a k : Int) + 1 else (backN a k : Int)
    rw [backN]
    split <;> simp
  · show ((backN a 48 : Nat) : Int) = 1
    rw [back_one ha]; rfl
theorem law_any (t0 t1 t2 x y z : Int) (w : World) :
    Calls Tryz.prog 7 #[.agg #[.int .i64 t0, .int .i64 t1, .int .i64 t2], .agg #[.int .i64 x, .int .i64 y, .int .i64 z]] w fun e w' => e = .returned (.bool true) ∧ Below w.heap.size w w' := by
  cases h0 : turnB t0 with
  | false => exact walk_bad0 w awake_any (fun wx => rturn_any h0 wx) (fun wx => both_bad1 h0 wx) (fun wx => both_bad2 (a := 0) rfl h0 wx)
  | true =>
  cases h1 : turnB t1 with
  | false => exact walk_bad1 w awake_any (fun wx => rturn_any h0 wx) (fun wx => rturn_any h1 wx) (fun wx => both_bad1 h1 wx) (fun wx => both_bad2 (a := 0) rfl h1 wx)
  | true =>
  cases h2 : turnB t2 with
  | false => exact walk_bad2 w awake_any (fun wx => rturn_any h0 wx) (fun wx => rturn_any h1 wx) (fun wx => rturn_any h2 wx) (fun wx => both_bad1 h2 wx) (fun wx => both_bad2 (a := 0) rfl h2 wx)
  | true =>
  cases hv : nearB x y z with
  | false =>
    have F := fun wx => far_any (x := x) (y := y) (z := z) wx
    rw [hv, Bool.not_false] at F
    exact walk_far w awake_any (fun wx => rturn_any h0 wx) (fun wx => rturn_any h1 wx) (fun wx => rturn_any h2 wx) (fun wx => F wx)
  | true =>
    obtain ⟨a, rfl, ha⟩ := turn_nat h0
    obtain ⟨b, rfl, hb⟩ := turn_nat h1
    obtain ⟨c, rfl, hc⟩ := turn_nat h2
    exact law_main ha hb hc hv w
end Go.Proofs.YtcboppdjjpeeoaaGreat
