/- Walks over the fits: a piece alone, its size over a season. -/
import Derived.Test.YtffmaoalnilkkaaHB
import Derived.Test.YtffmaoalnilkkaaFW
namespace Go.Proofs.Ytffmaoalnilkkaa
open Go.RowKit Go.Maps

theorem mdRow1' {w : World} {b : Nat} {x : Md} (h : MdAt w b 0 x) (hb : b < w.heap.size) : MdRow w (some ⟨b, 0, none⟩) 1 [x] :=
  ⟨rfl, fun _ => ⟨b, 0, rfl, hb, fun k hk => by match k, hk with | 0, _ => simpa using h⟩⟩
theorem mdRow0 (w : World) : MdRow w none 0 [] := ⟨rfl, fun h => absurd h (by omega)⟩
set_option maxHeartbeats 1000000 in
theorem alone_any (p : Md) (w : World) :
    Calls Try.prog 56 #[mdV p] w fun e w' => ∃ blk, e = .returned (ftV ⟨#[]⟩ (some ⟨blk, 0, none⟩) 1 1 none 0 0 0 0) ∧ MdRow w' (some ⟨blk, 0, none⟩) 1 [p] ∧ Below w.heap.size w w' := by
  obtain ⟨ps, pr, pm, pg, plo, phi⟩ := p
  unfold mdV ftV
  simp only
  go_enter Try.func56, Try.ntmps56
  go_wp2
  refine bodyPost_ret (v := .agg #[.string ⟨#[]⟩, .slice (some ⟨w.heap.size + 1 + 1, 0, none⟩) 1 1, .slice none 0 0, .int .i64 0, .int .i64 0]) (by simp [results, Try.results56, go_sem]) rfl ⟨_, rfl, ?_, ?_⟩
  · refine mdRow1' ?_ (by simp)
    refine ⟨?_, ?_, ?_, ?_, ?_, ?_⟩ <;> simp [go_sem]
  · repeat (refine Below.setCell ?_ (by first | (simp; done) | (simp; omega)) _)
    exact (((Below.refl _ _).alloc (Nat.le_refl _) _).alloc (by simp) _).alloc (by simp; omega) _
theorem single_of {l : List Int} {a : Int} (hn : l.Nodup) (h : ∀ x, x ∈ l ↔ x = a) : l = [a] := by
  cases l with
  | nil => exact absurd ((h a).2 rfl) (by simp)
  | cons b t =>
    have hb : b = a := (h b).1 (by simp)
    subst hb
    cases t with
    | nil => rfl
    | cons c u =>
      have hc : c = b := (h c).1 (by simp)
      subst hc
      exact absurd hn (by simp)
theorem gs_one {p : Md} (hp : MdOk p) : gsOf [p] = [p.g] := by
  refine single_of (gsOf_nodup _) fun g => ?_
  rw [mem_gsOf (fun x hx => by simp at hx; rw [hx]; exact hp)]
  simp [hasG]
  exact eq_comm
theorem lowM_mono {p : Md} (hp : MdOk p) {a b : Int} (h : a ≤ b) : lowM p a ≤ lowM p b := by
  unfold lowM
  exact millis_mono_t (by have := hp.l1; omega) hp.r0 h
theorem hiM_mono' {p : Md} (hp : MdOk p) {a b : Int} (h : a ≤ b) : hiM p a ≤ hiM p b := by
  unfold hiM
  exact millis_mono_t (by have := hp.s0; have := hp.h0; omega) hp.r0 h
theorem leastS_one {p : Md} (hp : MdOk p) {lo hi : Int} (h : lo ≤ hi) : leastS [p] [] lo hi = lowM p lo ∧ leastS [] [p] lo hi = -(hiM p hi) := by
  have s1 : ∀ t, share t [p] [] p.g = lowM p t := fun t => by unfold share shO shI sumL; simp [sumL]
  have s2 : ∀ t, share t [] [p] p.g = -(hiM p t) := fun t => by unfold share shO shI sumL; simp [sumL]
  have e1 : gsOf ([p] ++ []) = [p.g] := gs_one hp
  have e2 : gsOf ([] ++ [p]) = [p.g] := gs_one hp
  have m1 := lowM_mono hp h
  have m2 := hiM_mono' hp h
  unfold leastS
  rw [e1, e2]
  constructor
  · show lowG [p] [] lo hi p.g + 0 = _
    unfold lowG
    rw [s1, s1, decide_eq_false (by omega)]
    show lowM p lo + 0 = _
    omega
  · show lowG [] [p] lo hi p.g + 0 = _
    unfold lowG
    rw [s2, s2]
    by_cases e : -(hiM p hi) < -(hiM p lo)
    · rw [decide_eq_true e]; show -(hiM p hi) + 0 = _; omega
    · rw [decide_eq_false e]; show -(hiM p lo) + 0 = _; omega
end Go.Proofs.Ytffmaoalnilkkaa
