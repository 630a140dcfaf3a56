/- A symbolic run is what the model does: regions that draw their order, the whole; and all tasks together. -/
import Derived.Test.YtnjbhidncicfiaaAxDraw2
namespace Go.Ax
open Go

variable {P : Program}

/-! ### Counting what is not listed -/
def cntU (f : Nat → Bool) : Nat → Nat
  | 0 => 0
  | m + 1 => cntU f m + (if f m then 0 else 1)
theorem cntU_zero {f : Nat → Bool} : ∀ {m : Nat}, cntU f m = 0 → ∀ j, j < m → f j = true
  | 0, _, j, hj => by omega
  | m + 1, h, j, hj => by
    unfold cntU at h
    rcases Nat.lt_or_ge j m with hlt | hge
    · exact cntU_zero (by omega) j hlt
    · obtain rfl : j = m := by omega
      cases hf : f j
      · rw [hf] at h; simp at h
      · rfl
theorem cntU_same {f g : Nat → Bool} : ∀ {m : Nat}, (∀ j, j < m → f j = g j) → cntU f m = cntU g m
  | 0, _ => rfl
  | m + 1, h => by
    unfold cntU
    rw [cntU_same fun j hj => h j (by omega), h m (by omega)]
theorem cntU_set {f g : Nat → Bool} {i : Nat} (hf : f i = false) (hg : g i = true) : ∀ {m : Nat}, i < m → (∀ j, j ≠ i → f j = g j) → cntU f m = cntU g m + 1
  | 0, hi, _ => by omega
  | m + 1, hi, h => by
    unfold cntU
    rcases Nat.lt_or_ge i m with hlt | hge
    · rw [cntU_set hf hg hlt h, h m (by omega)]; omega
    · obtain rfl : i = m := by omega
      rw [cntU_same (fun j hj => h j (by omega)), hf, hg]; simp
theorem cntU_none : ∀ (m : Nat), cntU (fun _ => false) m = m
  | 0 => rfl
  | m + 1 => by unfold cntU; rw [cntU_none m]; simp

/-! ### No order comes to a stop before the end -/
theorem order_free {md : Region.Mode} {all : List Oper} {f : Nat → Bool} (hstuck : ∀ i o, all[i]? = some o → f i = false → ∃ e ∈ edgesOf md o, f e = false) :
    ∀ {L seen : List Nat}, orderOk md all L seen = true → (∀ j ∈ seen, f j = true) → ∀ j, j < all.length → f j = true
  | [], seen, h, hs, j, hj => by
    unfold orderOk at h
    rw [List.all_eq_true] at h
    have := h j (List.mem_range.2 hj)
    exact hs j (by simpa using this)
  | i :: L, seen, h, hs, j, hj => by
    unfold orderOk at h
    rw [Bool.and_eq_true] at h
    obtain ⟨h1, h2⟩ := h
    refine order_free hstuck h2 (fun k hk => ?_) j hj
    rcases List.mem_cons.1 hk with rfl | hk
    · cases ho : lget all k with
      | none => rw [ho] at h1; cases h1
      | some o =>
        rw [ho] at h1
        rw [lget_eq] at ho
        cases hf : f k
        · obtain ⟨e, he, hfe⟩ := hstuck k o ho hf
          rw [List.all_eq_true] at h1
          have := hs e (by simpa using h1 e he)
          rw [hfe] at this; cases this
        · rfl
    · exact hs k hk

/-! ### The closed checks -/
theorem static_of {ops : Array Oper} {M : Nat → Nat} {O : Nat → Oper} (h : drawOk ops = true) (hops : ∀ k, k < ops.toList.length → ops.toList[k]? = some (O k)) (hms : ∀ k, k < ops.toList.length → (masksOf ops.toList [])[k]? = some (M k)) :
    Static ops.toList M O ∧ orderOk .any ops.toList (List.range ops.size) [] = true ∧ orderOk .text ops.toList (List.range ops.size) [] = true ∧ orderOk .gc ops.toList (Region.linearise .gc ops 0) [] = true := by
  unfold drawOk at h
  simp only [Bool.and_eq_true] at h
  obtain ⟨⟨⟨⟨hp, hb⟩, ha⟩, ht⟩, hg⟩ := h
  refine ⟨?_, ha, ht, hg⟩
  have hjust : ∀ i, i < ops.toList.length → ∀ j, (M i).testBit j = true → ∃ e ∈ edgesOf .any (O i), j = e ∨ (e < ops.toList.length ∧ (M e).testBit j = true) := fun i hi j hj => by
    obtain ⟨e, he, hx⟩ := masksOf_just ops.toList [] i (M i) (O i) (hops i hi) (by simpa using hms i hi) j hj
    refine ⟨e, he, ?_⟩
    rcases hx with hx | ⟨m', hm', hbit⟩
    · exact .inl hx
    · have hel : e < ops.toList.length := by
        rw [List.getElem?_eq_some_iff] at hm'
        obtain ⟨hm', _⟩ := hm'
        rw [masksOf_length] at hm'; simpa using hm'
      rw [hms e hel] at hm'
      injection hm' with hm'
      exact .inr ⟨hel, by rw [hm']; exact hbit⟩
  have hedge : ∀ i, i < ops.toList.length → ∀ e ∈ edgesOf .any (O i), e < i := fun i hi e he => by
    unfold backOk at hb
    rw [List.all_eq_true] at hb
    have h1 := hb i (List.mem_range.2 hi)
    rw [lget_eq, hops i hi] at h1
    simp only at h1
    rw [List.all_eq_true] at h1
    exact Nat.le_of_ble_eq_true (h1 e he)
  have hback : ∀ i, i < ops.toList.length → ∀ j, (M i).testBit j = true → j < i := by
    intro i
    induction i using Nat.strongRecOn with
    | _ i ih =>
      intro hi j hj
      obtain ⟨e, he, hx⟩ := hjust i hi j hj
      have hei := hedge i hi e he
      rcases hx with rfl | ⟨hel, hbit⟩
      · exact hei
      · have := ih e hei hel j hbit; omega
  have hpair : ∀ i j, i < ops.toList.length → j < ops.toList.length → pairOk ops.toList (masksOf ops.toList []) i j (O i) (O j) = true := fun i j hi hj => by
    unfold pairsOk at hp
    rw [List.all_eq_true] at hp
    have h1 := hp i (List.mem_range.2 hi)
    rw [List.all_eq_true] at h1
    have h2 := h1 j (List.mem_range.2 hj)
    rw [lget_eq, lget_eq, hops i hi, hops j hj] at h2
    exact h2
  have hcmp : ∀ i j, i < ops.toList.length → j < ops.toList.length → compar (masksOf ops.toList []) i j = true → (M i).testBit j = true ∨ (M j).testBit i = true := fun i j hi hj h => by
    unfold compar at h
    rw [lget_eq, lget_eq, hms i hi, hms j hj] at h
    simpa using h
  refine ⟨hjust, hback, fun i j hi hj hne hki hkj => ?_, fun i j hi hj hne => ?_⟩
  · have h := hpair i j hi hj
    unfold pairOk at h
    rw [Bool.or_eq_true, Bool.or_eq_true] at h
    rcases h with (h | h) | h
    · exact absurd (Nat.eq_of_beq_eq_true h) hne
    · exact hcmp i j hi hj h
    · exfalso
      rw [Bool.and_eq_true] at h
      have h2 := h.2
      simp only [Bool.or_eq_true, Bool.and_eq_true, Bool.not_eq_true'] at h2
      have e1 : Kd ops.toList O i = kindAt ops.toList i (O i) := rfl
      have e2 : Kd ops.toList O j = kindAt ops.toList j (O j) := rfl
      have hk2 : kindAt ops.toList i (O i) ≤ 2 := by
        unfold kindAt
        split
        · omega
        unfold kindOf
        repeat' split
        all_goals omega
      rcases h2 with (h2 | h2) | h2
      · have := Nat.eq_of_beq_eq_true h2; omega
      · have := Nat.eq_of_beq_eq_true h2; omega
      · have h3 := h2.1
        have : kindAt ops.toList i (O i) = 2 := by omega
        rw [this] at h3; cases h3
  · have h := hpair i j hi hj
    unfold pairOk at h
    rw [Bool.or_eq_true, Bool.or_eq_true] at h
    rcases h with (h | h) | h
    · exact absurd (Nat.eq_of_beq_eq_true h) hne
    · rcases hcmp i j hi hj h with h | h
      · exact .inl h
      · exact .inr (.inl h)
    · refine .inr (.inr fun d hd => ?_)
      rw [Bool.and_eq_true] at h
      have h1 := h.1
      rw [hd] at h1
      simpa using h1

section
variable {r : Run} {all : List Oper} {s0 : St} {fr0 : Fr} {D : Nat → Draw} {M : Nat → Nat} {O : Nat → Oper} {V : Nat → AV} {S : Nat → St}
variable {B : Nat} {p q : Pl} {w0 w : World} {a0 a : Act} {L : Nat → Prop}

theorem inv_start (hr : Rel B p s0 w0) (hf : fr0.is p s0.n a0) : Inv all s0 fr0 D M O V S B p w0 a0 (fun _ => False) { p with ok := fun i => i < s0.n ∧ p.ok i } a0 { w0 with drawn := w0.drawn + 1 } := by
  have hfit : p.fits { p with ok := fun i => i < s0.n ∧ p.ok i } s0.n := fun i h => ⟨⟨h.1, h.2⟩, rfl, rfl⟩
  have hF : ∀ id x c, Fact all s0 D O S (fun _ => False) id x c → s0.h.get id = some x ∧ c = s0.n := fun id x c h => by
    rcases h with ⟨_, _, h, _⟩ | ⟨_, _, h, _⟩ | ⟨_, h1, h2⟩
    · exact h.elim
    · exact h.elim
    · exact ⟨h1, h2⟩
  refine ⟨fun i _ h => h.elim, fun id x c h hl => ?_, fun id x c id' x' c' h hl h' hl' he => ?_, hfit, fun id _ h => h.2, fun id h => .inl h.1, hf.size, rfl, fun t v c ht h => ?_, Nat.le_refl _, fun _ _ _ => rfl, fun id x c h hl hn => ?_, fun id x c h hl _ => ?_, rfl, rfl, rfl⟩
  · obtain ⟨h1, rfl⟩ := hF id x c h
    obtain ⟨g1, g2, g3, g4⟩ := hr.row id x h1 hl
    exact ⟨hfit.has (Nat.le_refl _) g1, g2, g3, g4.fits hfit (Nat.le_refl _) g1⟩
  · exact hr.inj id id' ⟨x, (hF id x c h).1, hl⟩ ⟨x', (hF id' x' c' h').1, hl'⟩ he
  · rcases h with ⟨_, _, h, _⟩ | ⟨_, h1, rfl⟩
    · exact h.elim
    · obtain ⟨u, hu, hv⟩ := hf.get t v h1
      exact ⟨u, hu, hv.fits hfit (Nat.le_refl _)⟩
  · have := (hr.row id x (hF id x c h).1 hl).1.1; omega
  · exact ⟨x, (hF id x c h).1, hl⟩

/-- Behind all operations. -/
theorem inv_end (X : Txt P r all s0 fr0 D M O V S) (I : Inv all s0 fr0 D M O V S B p w0 a0 L q a w) (hr : Rel B p s0 w0) (hf0 : fr0.is p s0.n a0) (hall : ∀ j, j < all.length → L j) :
    Post B p s0 w0 q { h := withItems (D all.length).b (fun _ => true) (D all.length).items, n := (D all.length).n, lo := (D all.length).lo } w ∧ (D all.length).fr.is q (D all.length).n a := by
  have hself : ∀ c, q.fits q c := fun c _ h => ⟨h.2, rfl, rfl⟩
  have hn0 : s0.n ≤ (D all.length).n ∧ (D all.length).lo ≤ s0.lo := by
    have := X.mono (Nat.zero_le all.length) (Nat.le_refl _)
    rw [X.zero] at this; exact this
  have hS : ∀ j, j < all.length → (S j).n ≤ (D all.length).n := fun j hj => by
    have := (X.next j hj).2.1
    have := (X.mono (show j + 1 ≤ all.length by omega) (Nat.le_refl _)).1
    omega
  have hsrc : ∀ id x, (withItems (D all.length).b (fun _ => true) (D all.length).items).get id = some x → ∃ c, c ≤ (D all.length).n ∧ Fact all s0 D O S L id x c := fun id x hg => by
    rcases X.src (Nat.le_refl _) hg with ⟨j, hj, hK, _, hno, hn, hg⟩ | ⟨k, hk, h2, hno, hg⟩ | ⟨hno, hg⟩
    · refine ⟨_, hS j hj, .inl ⟨j, hj, hall j hj, hK, fun k hk _ h2 => ?_, hn, hg, rfl⟩⟩
      rcases Nat.lt_trichotomy k j with hlt | heq | hgt
      · exact hlt
      · subst heq; omega
      · have := hno k hgt hk; omega
    · refine ⟨_, hS k hk, .inr (.inl ⟨k, hk, hall k hk, h2, fun k' hk' _ h2' => ?_, hg, rfl⟩)⟩
      rcases Nat.lt_or_ge k k' with hlt | hge
      · have := hno k' hlt hk'; omega
      · exact hge
    · exact ⟨_, hn0.1, .inr (.inr ⟨fun k hk _ => hno k hk, hg, rfl⟩)⟩
  refine ⟨⟨hr, hn0.1, hn0.2, I.fits, I.back, ⟨fun id x hg hl => ?_, fun id id' hg hg' he => ?_⟩, I.grew, I.keep, fun id hn hl => ?_, fun id hn hl => ?_, I.os, I.tape, I.output⟩, ?_⟩
  · obtain ⟨c, hc, hF⟩ := hsrc id x hg
    obtain ⟨h1, h2, h3, h4⟩ := I.fact id x c hF hl
    exact ⟨(hself c).has hc h1, h2, h3, h4.fits (hself c) hc h1⟩
  · obtain ⟨x, hg, hl⟩ := hg
    obtain ⟨x', hg', hl'⟩ := hg'
    obtain ⟨c, _, hF⟩ := hsrc id x hg
    obtain ⟨c', _, hF'⟩ := hsrc id' x' hg'
    exact I.inj id x c id' x' c' hF hl hF' hl' he
  · obtain ⟨x, hg, hl⟩ := hl
    obtain ⟨c, _, hF⟩ := hsrc id x hg
    exact I.new id x c hF hl hn
  · obtain ⟨x, hg, hl⟩ := hl
    obtain ⟨c, _, hF⟩ := hsrc id x hg
    exact I.old id x c hF hl hn
  · obtain ⟨h1, h2, h3⟩ := X.slots all.length (Nat.le_refl _)
    refine ⟨by rw [I.size]; exact h1.symm, fun t v ht => ?_, ?_, fun d hd => ?_⟩
    · have htn : t < fr0.nt := Decidable.byContradiction fun hh => by
        obtain ⟨u, hu, _⟩ := hf0.get t v (slots_high X _ (Nat.le_refl _) t v hh ht)
        rw [Array.getElem?_eq_some_iff] at hu
        obtain ⟨hu, _⟩ := hu
        rw [hf0.size] at hu
        exact hh hu
      rcases h3 t v htn ht with ⟨j, a1, a2, a3, a4⟩ | ⟨a1, a2⟩
      · obtain ⟨u, hu, hv⟩ := I.slot t v (S j).n htn (.inl ⟨j, a1, hall j a1, a2, a3, fun j' hj' _ hd' => by
          rcases Nat.lt_or_ge j j' with hlt | hge
          · exact absurd hd' (a4 j' hlt hj')
          · exact hge, rfl⟩)
        exact ⟨u, hu, hv.fits (hself _) (hS j a1)⟩
      · obtain ⟨u, hu, hv⟩ := I.slot t v s0.n htn (.inr ⟨fun j hj _ => a1 j hj, a2, rfl⟩)
        exact ⟨u, hu, hv.fits (hself _) hn0.1⟩
    · rw [I.defers, hf0.marks, h2]
      exact List.map_congr_left fun d hd => by simp only [(I.fits d (hf0.marksLt d hd)).2.1]
    · exact I.fits.has hn0.1 (hf0.marksLt d (by rw [← h2]; exact hd))
end

end Go.Ax
