/- Each operation of a symbolic run is what the model does, sixth part: cutting a slice. -/
import Derived.Test.YtnjbhidncicfiaaAxOps5
namespace Go.Ax
open Go

variable {P : Program} {B : Nat} {p : Pl} {s s' : St} {w : World} {fr : Fr} {a : Act} {v : AV}

def OptIs (p : Pl) (n : Nat) : Option AV → Option Value → Prop
  | none, none => True
  | some x, some v => x.is p n v
  | _, _ => False
theorem evalOpt_is (hf : fr.is p s.n a) {x : Option Operand} {r : Option AV} (h : evalOpt fr x = some r) : OptIs p s.n r (x.map a.eval) := by
  cases x with
  | none => injection h with h; subst h; trivial
  | some x =>
    unfold evalOpt at h
    rw [Option.map_eq_some_iff] at h
    obtain ⟨y, hy, rfl⟩ := h
    exact hf.eval hy
/-- A bound that is in range. -/
theorem bound_some {n : Nat} {x : AV} {d top m : Nat} (h : bound? (some x) d top = some m) {u : Value} (hx : x.is p n u) : m ≤ top ∧ ∀ (y : Nat) (code : Go.BoundsCode) (w : World), top ≤ y → (Instr.sliceBound u y code).run P w = .ok m w := by
  unfold bound? at h
  split at h
  · rename_i hh; cases hh
  · rename_i i hh
    split at h
    · rename_i hle
      have hle := Nat.le_of_ble_eq_true hle
      injection h with h; subst h
      injection hh with hh; subst hh
      refine ⟨hle, fun y code w hy => ?_⟩
      rw [show u = _ from hx]
      have : (0 : Int) ≤ Int.ofNat i ∧ Int.ofNat i ≤ (y : Int) := ⟨Int.natCast_nonneg i, Int.ofNat_le.2 (show i ≤ y by omega)⟩
      simp only [Instr.sliceBound, asIntOf, Sem.run_bind, Sem.run_pure, Result.andThen_ok, if_pos this]
      rfl
    · cases h
  · cases h
theorem bound_none {d top m : Nat} (h : bound? none d top = some m) : m = d := by
  unfold bound? at h; simpa using h.symm
theorem bound_dflt (y : AV) (d d' top : Nat) : bound? (some y) d top = bound? (some y) d' top := by
  unfold bound?
  cases y with
  | tup l => rfl
  | one z => cases z with
    | agg l => rfl
    | sc x =>
      cases x with
      | int k n => cases n <;> rfl
      | _ => rfl
theorem cutAt_eq (o l m size : Nat) : cutAt o l m size = if m = l then o else o + l * size := by
  unfold cutAt
  cases h : Nat.beq m l
  · rw [if_neg (fun e => by subst e; simp at h)]
  · rw [if_pos (Nat.eq_of_beq_eq_true h)]

/-- The three bounds. -/
theorem bounds_sound {n : Nat} {len cap m h l : Nat} {lo hi mx : Option AV} {lo' hi' mx' : Option Value} (hlo : OptIs p n lo lo') (hhi : OptIs p n hi hi') (hmx : OptIs p n mx mx') (hno : ¬ (mx.isSome = true ∧ hi.isNone = true))
    (h1 : bound? mx cap cap = some m) (h2 : bound? hi len m = some h) (h3 : bound? lo 0 h = some l) (hl : len ≤ cap) (b : Bool) (w : World) :
    (Instr.sliceBounds b len cap lo' hi' mx').run P w = .ok (l, h, m) w ∧ l ≤ h ∧ h ≤ m ∧ m ≤ cap := by
  unfold Instr.sliceBounds
  cases mx with
  | none =>
    cases mx' with
    | some _ => exact hmx.elim
    | none =>
      obtain rfl := bound_none h1
      cases hi with
      | none =>
        cases hi' with
        | some _ => exact hhi.elim
        | none =>
          obtain rfl := bound_none h2
          cases lo with
          | none =>
            cases lo' with
            | some _ => exact hlo.elim
            | none => obtain rfl := bound_none h3; exact ⟨by simp, by omega, hl, Nat.le_refl _⟩
          | some x =>
            cases lo' with
            | none => exact hlo.elim
            | some u =>
              obtain ⟨ha, hb⟩ := bound_some (P := P) h3 hlo
              exact ⟨by simp [hb _ _ _ (Nat.le_refl _)], ha, hl, Nat.le_refl _⟩
      | some x =>
        cases hi' with
        | none => exact hhi.elim
        | some u =>
          obtain ⟨ha, hb⟩ := bound_some (P := P) h2 hhi
          cases lo with
          | none =>
            cases lo' with
            | some _ => exact hlo.elim
            | none => obtain rfl := bound_none h3; exact ⟨by simp [hb _ _ _ (Nat.le_refl _)], by omega, ha, Nat.le_refl _⟩
          | some y =>
            cases lo' with
            | none => exact hlo.elim
            | some u' =>
              obtain ⟨hc, hd⟩ := bound_some (P := P) h3 hlo
              exact ⟨by simp [hb _ _ _ (Nat.le_refl _), hd _ _ _ (Nat.le_refl _)], hc, ha, Nat.le_refl _⟩
  | some z =>
    cases mx' with
    | none => exact hmx.elim
    | some uz =>
      obtain ⟨hma, hmb⟩ := bound_some (P := P) h1 hmx
      cases hi with
      | none => exact absurd ⟨rfl, rfl⟩ hno
      | some x =>
        cases hi' with
        | none => exact hhi.elim
        | some u =>
          obtain ⟨ha, hb⟩ := bound_some (P := P) h2 hhi
          cases lo with
          | none =>
            cases lo' with
            | some _ => exact hlo.elim
            | none => obtain rfl := bound_none h3; exact ⟨by simp [hb _ _ _ (Nat.le_refl _), hmb _ _ _ (Nat.le_refl _)], by omega, ha, hma⟩
          | some y =>
            cases lo' with
            | none => exact hlo.elim
            | some u' =>
              obtain ⟨hc, hd⟩ := bound_some (P := P) h3 hlo
              exact ⟨by simp [hb _ _ _ (Nat.le_refl _), hd _ _ _ (Nat.le_refl _), hmb _ _ _ (Nat.le_refl _)], hc, ha, hma⟩

theorem sliceOf_parts {i o len cap size : Nat} {lo hi mx : Option AV} {r : AV} (h : sliceOf i o len cap size lo hi mx = some r) :
    ∃ m hh l, bound? mx cap cap = some m ∧ bound? hi len m = some hh ∧ bound? lo 0 hh = some l ∧ r = .sc (.slc i (cutAt o l m size) (hh - l) (m - l)) := by
  unfold sliceOf at h
  split at h
  · cases h
  · rename_i m hm
    split at h
    · cases h
    · rename_i hh hhh
      split at h
      · cases h
      · rename_i l hl
        rw [forceNat_eq, forceNat_eq, forceNat_eq] at h
        injection h with h
        exact ⟨m, hh, l, hm, hhh, hl, h.symm⟩
theorem no_of {mx hi : Option AV} {r : Option AV} {v : AV} (h : (match mx, hi with | some _, none => none | _, _ => r) = some v) : ¬ (mx.isSome = true ∧ hi.isNone = true) ∧ r = some v := by
  cases mx <;> cases hi <;> simp_all

theorem slice_sound {t : TypeId} {x r : AV} {lo hi mx : Option AV} (h : slice? P t x lo hi mx = some r) {n : Nat} {u : Value} {lo' hi' mx' : Option Value} (hx : x.is p n u) (hlo : OptIs p n lo lo') (hhi : OptIs p n hi hi') (hmx : OptIs p n mx mx') (w : World) :
    ∃ z, (Instr.sliceAt t u lo' hi' mx').run P w = .ok z w ∧ r.is p n z := by
  unfold slice? at h
  split at h
  · rename_i e hu
    rw [show u = _ from hx]
    split at h
    · rename_i m hh l z h1 h2 h3 hsz
      obtain ⟨hno, h⟩ := no_of h
      injection h with h; subst h
      have hm0 : m = 0 := by
        cases mx with
        | none => exact bound_none h1
        | some y => cases mx' with
          | none => exact hmx.elim
          | some _ => exact Nat.le_zero.1 (bound_some (P := P) h1 hmx).1
      subst hm0
      have hh0 : hh = 0 := by
        cases hi with
        | none => exact bound_none h2
        | some y => cases hi' with
          | none => exact hhi.elim
          | some _ => exact Nat.le_zero.1 (bound_some (P := P) h2 hhi).1
      subst hh0
      obtain ⟨hb, hb1, hb2, hb3⟩ := bounds_sound (P := P) hlo hhi hmx hno h1 h2 h3 (Nat.le_refl _) true w
      obtain rfl : l = 0 := by omega
      refine ⟨.slice none 0 0, ?_, rfl⟩
      simp [Instr.sliceAt, Instr.slice, run_underlying' hu, hb, run_sizeOf hsz]
    · cases h
  · rename_i e i o len cap hu
    split at h
    · cases h
    · rename_i size hsz
      obtain ⟨hno, h⟩ := no_of h
      obtain ⟨m, hh, l, h1, h2, h3, rfl⟩ := sliceOf_parts h
      obtain ⟨hb, hb1, hb2, hb3⟩ := bounds_sound (P := P) hlo hhi hmx hno h1 h2 h3 hx.2.1 true w
      rw [show u = _ from hx.2.2]
      refine ⟨.slice (some ⟨p.ρ i, cutAt o l m size, none⟩) (hh - l) (m - l), ?_, hx.1, by omega, rfl⟩
      simp only [Instr.sliceAt, Instr.slice, run_underlying' hu, hb, run_sizeOf hsz, Sem.run_bind, Result.andThen_ok, Sem.run_pure, cutAt_eq]
      split <;> simp [addr_add]
  · rename_i e i o len size hu
    obtain ⟨hi0, c, hlc, hκ, hx⟩ := hx
    split at h
    · cases h
    · rename_i size' hsz
      split at h
      · rename_i hs
        have hs := Nat.eq_of_beq_eq_true hs
        subst hs
        rw [hx]
        unfold sliceOpen at h
        split at h
        · rename_i y
          split at h
          · cases h
          · rename_i m h1
            split at h
            · rename_i hh hy' h2
              split at h
              · cases h
              · rename_i l h3
                rw [forceNat_eq, forceNat_eq, forceNat_eq] at h
                injection h with h; subst h
                -- the same bounds, against the capacity
                have hm : m ≤ len := by
                  cases mx' with
                  | none => exact hmx.elim
                  | some _ => exact (bound_some (P := P) h1 hmx).1
                have h1' : bound? (some y) c c = some m := by
                  unfold bound? at h1 ⊢
                  split at h1
                  · rename_i hq; cases hq
                  · rename_i k j hq
                    split at h1
                    · injection h1 with h1; subst h1
                      rw [Nat.ble_eq_true_of_le (show j ≤ c by omega)]
                    · cases h1
                  · cases h1
                obtain ⟨hb, hb1, hb2, hb3⟩ := bounds_sound (P := P) (len := len) hlo hhi hmx (by simp) h1' (show bound? (some hy') len m = some hh by rw [bound_dflt _ len 0]; exact h2) h3 hlc true w
                refine ⟨.slice (some ⟨p.ρ i, cutAt o l m size', none⟩) (hh - l) (m - l), ?_, hi0, by omega, rfl⟩
                simp only [Instr.sliceAt, Instr.slice, run_underlying' hu, hb, run_sizeOf hsz, Sem.run_bind, Result.andThen_ok, Sem.run_pure, cutAt_eq]
                split <;> simp [addr_add]
            · cases h
        · split at h
          · cases h
          · rename_i hh h2
            split at h
            · cases h
            · rename_i l h3
              have hmx0 : mx' = none := by cases mx' with | none => rfl | some _ => exact hmx.elim
              subst hmx0
              have hhl : hh ≤ len := by
                cases hi with
                | none => rw [bound_none h2]; exact Nat.le_refl _
                | some y => cases hi' with
                  | none => exact hhi.elim
                  | some _ => exact (bound_some (P := P) h2 hhi).1
              have h2' : bound? hi len c = some hh := by
                unfold bound? at h2 ⊢
                split at h2
                · exact h2
                · rename_i k j
                  split at h2
                  · injection h2 with h2; subst h2
                    rw [Nat.ble_eq_true_of_le (show j ≤ c by omega)]
                  · cases h2
                · cases h2
              obtain ⟨hb, hb1, hb2, hb3⟩ := bounds_sound (P := P) (mx := none) (m := c) hlo hhi hmx (by simp) rfl h2' h3 hlc true w
              split at h
              · rename_i hz
                have hz := Nat.eq_of_beq_eq_true hz
                subst hz
                injection h with h; subst h
                refine ⟨.slice (some ⟨p.ρ i, o, none⟩) hh c, ?_, hi0, c, by omega, hκ, rfl⟩
                simp only [Instr.sliceAt, Instr.slice, run_underlying' hu, hb, run_sizeOf hsz, Sem.run_bind, Result.andThen_ok, Sem.run_pure]
                split <;> simp [addr_add]
              · rename_i hlt
                have hlt := Nat.le_of_ble_eq_true hlt
                rw [forceNat_eq, forceNat_eq] at h
                injection h with h; subst h
                refine ⟨.slice (some ⟨p.ρ i, o + l * size', none⟩) (hh - l) (c - l), ?_, hi0, c - l, by omega, ?_, rfl⟩
                · simp only [Instr.sliceAt, Instr.slice, run_underlying' hu, hb, run_sizeOf hsz, Sem.run_bind, Result.andThen_ok, Sem.run_pure]
                  rw [if_neg (by omega)]
                  simp [addr_add]
                · rw [← hκ, Nat.sub_mul, Nat.add_assoc, ← Nat.add_sub_assoc (Nat.mul_le_mul_right _ (by omega)), Nat.add_sub_cancel_left]
              · cases h
      · cases h
  · rename_i zs hu
    rw [show u = _ from hx]
    split at h
    · cases h
    · have hmx0 : mx' = none := by cases mx' with | none => rfl | some _ => exact hmx.elim
      subst hmx0
      split at h
      · cases h
      · rename_i hh h2
        split at h
        · cases h
        · rename_i l h3
          injection h with h; subst h
          obtain ⟨hb, _⟩ := bounds_sound (P := P) (mx := none) (m := zs.size) hlo hhi hmx (by simp) rfl h2 h3 (Nat.le_refl _) false w
          exact ⟨.string (zs.extract l hh), by simp [Instr.sliceAt, Instr.slice, run_underlying' hu, hb], rfl⟩
  · rename_i nn e i o hu
    split at h
    · cases h
    · rename_i size hsz
      obtain ⟨hno, h⟩ := no_of h
      obtain ⟨m, hh, l, h1, h2, h3, rfl⟩ := sliceOf_parts h
      obtain ⟨hb, hb1, hb2, hb3⟩ := bounds_sound (P := P) hlo hhi hmx hno h1 h2 h3 (Nat.le_refl _) false w
      rw [show u = _ from hx.2]
      refine ⟨.slice (some ⟨p.ρ i, cutAt o l m size, none⟩) (hh - l) (m - l), ?_, hx.1, by omega, rfl⟩
      simp only [Instr.sliceAt, run_underlying' hu, hb, run_sizeOf hsz, Sem.run_bind, Result.andThen_ok, Sem.run_pure, cutAt_eq, Pl.at, Instr.sureAddr]
      split <;> simp [addr_add]
  · cases h
theorem oSlice_sound (hr : Rel B p s w) (hf : fr.is p s.n a) {t : TypeId} {x : Operand} {lo hi mx : Option Operand} (h : oSlice P fr s t (fr.eval x) lo hi mx = some (.val v, s')) :
    Fine P B p s w (do pure (.value (← Instr.sliceAt t (a.eval x) (lo.map a.eval) (hi.map a.eval) (mx.map a.eval)))) v s' := by
  unfold oSlice at h
  split at h
  · rename_i hx hlo hhi hmx
    obtain ⟨r, hr', rfl, rfl⟩ := map_inj h
    obtain ⟨z, hz, hzr⟩ := slice_sound hr' (hf.eval hx) (evalOpt_is hf hlo) (evalOpt_is hf hhi) (evalOpt_is hf hmx) w
    exact Fine.quiet hr (by rw [Sem.run_bind, hz]; rfl) hzr
  · cases h

end Go.Ax
