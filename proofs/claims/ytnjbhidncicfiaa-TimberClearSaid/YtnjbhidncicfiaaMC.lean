/- Clear lengths, plainly: no program. Lists of intervals that are ascending and apart are told by their points. -/
namespace Go.Proofs.Ytnjbhidncicfiaa

abbrev Iv := Int × Int
def memL (x : Int) (l : List Iv) : Prop := ∃ p ∈ l, p.1 ≤ x ∧ x < p.2
/-- Ascending, none empty, none touching the one before; all above b. -/
def NormL (b : Int) : List Iv → Prop
  | [] => True
  | p :: r => b < p.1 ∧ p.1 < p.2 ∧ NormL p.2 r
theorem memL_nil (x : Int) : ¬ memL x [] := fun ⟨_, h, _⟩ => by cases h
theorem memL_cons {x : Int} {p : Iv} {r : List Iv} : memL x (p :: r) ↔ (p.1 ≤ x ∧ x < p.2) ∨ memL x r := by
  unfold memL; simp
theorem memL_append {x : Int} {l r : List Iv} : memL x (l ++ r) ↔ memL x l ∨ memL x r := by
  unfold memL
  constructor
  · rintro ⟨p, hp, h⟩
    rcases List.mem_append.1 hp with h1 | h1
    · exact .inl ⟨p, h1, h⟩
    · exact .inr ⟨p, h1, h⟩
  · rintro (⟨p, hp, h⟩ | ⟨p, hp, h⟩)
    · exact ⟨p, List.mem_append_left _ hp, h⟩
    · exact ⟨p, List.mem_append_right _ hp, h⟩
theorem norm_above : ∀ {l : List Iv} {b x : Int}, NormL b l → memL x l → b < x
  | [], _, _, _, h => absurd h (memL_nil _)
  | p :: r, b, x, hn, h => by
    rcases memL_cons.1 h with h1 | h1
    · have := hn.1; omega
    · have := norm_above hn.2.2 h1; have := hn.1; have := hn.2.1; omega
theorem norm_unique : ∀ {l l' : List Iv} {b : Int}, NormL b l → NormL b l' → (∀ x, memL x l ↔ memL x l') → l = l'
  | [], [], _, _, _, _ => rfl
  | [], p :: r, b, _, hn, h => absurd ((h p.1).2 (memL_cons.2 (.inl ⟨by omega, hn.2.1⟩))) (memL_nil _)
  | p :: r, [], b, hn, _, h => absurd ((h p.1).1 (memL_cons.2 (.inl ⟨by omega, hn.2.1⟩))) (memL_nil _)
  | (a, c) :: r, (a', c') :: r', b, hn, hn', h => by
    obtain ⟨h1, h2, h3⟩ := hn
    obtain ⟨h1', h2', h3'⟩ := hn'
    simp only at h1 h2 h3 h1' h2' h3'
    have low : ∀ {p q : Int} {s : List Iv} {x : Int}, p < q → NormL q s → memL x ((p, q) :: s) → p ≤ x := fun hp hs hm => by
      rcases memL_cons.1 hm with hh | hh
      · exact hh.1
      · have := norm_above hs hh; omega
    have ha : a = a' := by
      have i1 := low h2' h3' ((h a).1 (memL_cons.2 (.inl ⟨by simp, h2⟩)))
      have i2 := low h2 h3 ((h a').2 (memL_cons.2 (.inl ⟨by simp, h2'⟩)))
      omega
    subst ha
    have hc : c = c' := by
      rcases Int.lt_trichotomy c c' with e | e | e
      · have m := (h c).2 (memL_cons.2 (.inl ⟨by simp only; omega, e⟩))
        rcases memL_cons.1 m with hh | hh
        · have := hh.2; simp only at this; omega
        · have := norm_above h3 hh; omega
      · exact e
      · have m := (h c').1 (memL_cons.2 (.inl ⟨by simp only; omega, e⟩))
        rcases memL_cons.1 m with hh | hh
        · have := hh.2; simp only at this; omega
        · have := norm_above h3' hh; omega
    subst hc
    have hr : r = r' := norm_unique h3 h3' (fun x => ⟨fun hm => by
      have hx := norm_above h3 hm
      rcases memL_cons.1 ((h x).1 (memL_cons.2 (.inr hm))) with hh | hh
      · have := hh.2; simp only at this; omega
      · exact hh, fun hm => by
      have hx := norm_above h3' hm
      rcases memL_cons.1 ((h x).2 (memL_cons.2 (.inr hm))) with hh | hh
      · have := hh.2; simp only at this; omega
      · exact hh⟩)
    rw [hr]

/-! ### What is left between taken intervals, from the lowest on -/
def opn (free : Int) : List Iv → List Iv
  | [] => []
  | t :: r => bif decide (free < t.1) then (free, t.1) :: opn (max free t.2) r else opn (max free t.2) r
def freeAt (ts : List Iv) (x : Int) : Prop := ∀ t ∈ ts, ¬ (t.1 ≤ x ∧ x < t.2)
theorem opn_norm : ∀ {ts : List Iv} {e free b : Int}, (∀ t ∈ ts, t.1 < t.2) → b < free → NormL b (opn free (ts ++ [(e, e)]))
  | [], e, free, b, _, hb => by
    show NormL b (bif decide (free < e) then [(free, e)] else [])
    by_cases h : free < e
    · rw [decide_eq_true h]; exact ⟨hb, h, trivial⟩
    · rw [decide_eq_false h]; trivial
  | t :: r, e, free, b, ht, hb => by
    show NormL b (bif decide (free < t.1) then (free, t.1) :: opn (max free t.2) (r ++ [(e, e)]) else opn (max free t.2) (r ++ [(e, e)]))
    have h2 := ht t (List.mem_cons_self ..)
    have hr : ∀ t ∈ r, t.1 < t.2 := fun t h => ht t (List.mem_cons_of_mem _ h)
    by_cases h : free < t.1
    · rw [decide_eq_true h]
      exact ⟨hb, h, opn_norm hr (by omega)⟩
    · rw [decide_eq_false h]
      exact opn_norm hr (by omega)
theorem opn_mem : ∀ {ts : List Iv} {e free x : Int}, ts.Pairwise (fun a b => a.1 ≤ b.1) → (∀ t ∈ ts, t.1 ≤ e) → (memL x (opn free (ts ++ [(e, e)])) ↔ free ≤ x ∧ x < e ∧ freeAt ts x)
  | [], e, free, x, _, _ => by
    show memL x (bif decide (free < e) then [(free, e)] else []) ↔ _
    by_cases h : free < e
    · rw [decide_eq_true h, cond_true, memL_cons]
      exact ⟨fun hh => by
        rcases hh with hh | hh
        · exact ⟨hh.1, hh.2, fun t ht => by cases ht⟩
        · exact absurd hh (memL_nil _), fun ⟨h1, h2, _⟩ => .inl ⟨h1, h2⟩⟩
    · rw [decide_eq_false h]
      exact ⟨fun hh => absurd hh (memL_nil _), fun ⟨h1, h2, _⟩ => by omega⟩
  | t :: r, e, free, x, hs, he => by
    have hs' := List.pairwise_cons.1 hs
    have ih := opn_mem (ts := r) (e := e) (free := max free t.2) (x := x) hs'.2 (fun u hu => he u (List.mem_cons_of_mem _ hu))
    have hte := he t (List.mem_cons_self ..)
    show memL x (bif decide (free < t.1) then (free, t.1) :: opn (max free t.2) (r ++ [(e, e)]) else opn (max free t.2) (r ++ [(e, e)])) ↔ _
    have fa : freeAt (t :: r) x ↔ ¬ (t.1 ≤ x ∧ x < t.2) ∧ freeAt r x := by unfold freeAt; simp
    rw [fa]
    have low : x < t.1 → freeAt r x := fun hx u hu hh => by have := hs'.1 u hu; omega
    by_cases h : free < t.1
    · rw [decide_eq_true h, cond_true, memL_cons, ih]
      constructor
      · rintro (hh | ⟨h1, h2, h3⟩)
        · simp only at hh; exact ⟨by omega, by omega, by omega, low hh.2⟩
        · exact ⟨by omega, h2, by omega, h3⟩
      · rintro ⟨h1, h2, h3, h4⟩
        by_cases hx : x < t.1
        · exact .inl ⟨h1, hx⟩
        · exact .inr ⟨by omega, h2, h4⟩
    · rw [decide_eq_false h, cond_false, ih]
      constructor
      · rintro ⟨h1, h2, h3⟩; exact ⟨by omega, h2, by omega, h3⟩
      · rintro ⟨h1, h2, h3, h4⟩; exact ⟨by omega, h2, h4⟩

/-! ### What the reference makes, from line to line -/
def lastHi (b : Int) (l : List Iv) : Int := match l.getLast? with | some p => p.2 | none => b
theorem norm_snoc : ∀ {l : List Iv} {b : Int} {p : Iv}, NormL b (l ++ [p]) ↔ NormL b l ∧ lastHi b l < p.1 ∧ p.1 < p.2
  | [], b, p => by simp [NormL, lastHi]
  | q :: r, b, p => by
    show b < q.1 ∧ q.1 < q.2 ∧ NormL q.2 (r ++ [p]) ↔ (b < q.1 ∧ q.1 < q.2 ∧ NormL q.2 r) ∧ _
    rw [norm_snoc]
    have e : lastHi b (q :: r) = lastHi q.2 r := by
      unfold lastHi
      rw [List.getLast?_cons]
      cases r.getLast? <;> rfl
    rw [e]
    constructor
    · rintro ⟨h1, h2, h3, h4, h5⟩; exact ⟨⟨h1, h2, h3⟩, h4, h5⟩
    · rintro ⟨⟨h1, h2, h3⟩, h4, h5⟩; exact ⟨h1, h2, h3, h4, h5⟩
/-- One step of the reference: the segment from x to y is clear. -/
def addSeg (l : List Iv) (x y : Int) : List Iv := match l.getLast? with
  | some p => if p.2 = x then l.dropLast ++ [(p.1, y)] else l ++ [(x, y)]
  | none => l ++ [(x, y)]
theorem addSeg_norm {l : List Iv} {b x y : Int} (h : NormL b l) (hb : b < x) (hl : lastHi b l ≤ x) (hxy : x < y) : NormL b (addSeg l x y) ∧ lastHi b (addSeg l x y) = y := by
  unfold addSeg
  cases hg : l.getLast? with
  | none =>
    have hn : l = [] := by simpa using hg
    subst hn
    simp [NormL, lastHi, hb, hxy]
  | some p =>
    obtain ⟨l', rfl⟩ := List.getLast?_eq_some_iff.1 hg
    have hp : lastHi b (l' ++ [p]) = p.2 := by unfold lastHi; simp
    rw [hp] at hl
    have hh := norm_snoc.1 h
    simp only
    by_cases e : p.2 = x
    · rw [if_pos e, List.dropLast_concat]
      refine ⟨norm_snoc.2 ⟨hh.1, hh.2.1, ?_⟩, by unfold lastHi; simp⟩
      have := hh.2.2; simp only; omega
    · rw [if_neg e]
      refine ⟨norm_snoc.2 ⟨h, ?_, hxy⟩, by unfold lastHi; simp⟩
      rw [hp]; simp only; omega
theorem addSeg_mem {l : List Iv} {b x y z : Int} (h : NormL b l) (hxy : x < y) : memL z (addSeg l x y) ↔ memL z l ∨ (x ≤ z ∧ z < y) := by
  unfold addSeg
  cases hg : l.getLast? with
  | none => simp only; rw [memL_append, memL_cons]; simp [memL_nil]
  | some p =>
    obtain ⟨l', rfl⟩ := List.getLast?_eq_some_iff.1 hg
    have hh := norm_snoc.1 h
    simp only
    by_cases e : p.2 = x
    · rw [if_pos e, List.dropLast_concat, memL_append, memL_append, memL_cons, memL_cons]
      have := hh.2.2
      constructor
      · rintro (h1 | h1 | h1)
        · exact .inl (.inl h1)
        · simp only at h1
          by_cases hz : z < p.2
          · exact .inl (.inr (.inl ⟨h1.1, hz⟩))
          · exact .inr ⟨by omega, h1.2⟩
        · exact absurd h1 (memL_nil _)
      · rintro ((h1 | h1 | h1) | h1)
        · exact .inl h1
        · exact .inr (.inl ⟨h1.1, by simp only; omega⟩)
        · exact absurd h1 (memL_nil _)
        · exact .inr (.inl ⟨by simp only; omega, h1.2⟩)
    · rw [if_neg e, memL_append, memL_cons]
      simp [memL_nil]
end Go.Proofs.Ytnjbhidncicfiaa
