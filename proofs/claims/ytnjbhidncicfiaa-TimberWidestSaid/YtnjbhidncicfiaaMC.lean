/- Clear lengths, plainly: no program. Lists of intervals that are ascending and apart are told by their points. Lines of a board and its clear lengths, plainly: no program. The part of a board that its defects cover, plainly: no program. Sums over strips and over the fields of a net. The widest sound rectangle of a length, plainly: no program. What the program and the reference scan, and that both find the first of the widest. Mathematics: the widest sound rectangle, what its walks ask for. -/
import Derived.Test.YtnjbhidncicfiaaMS
namespace Go.Proofs.Ytnjbhidncicfiaa

abbrev Iv := Int × Int
def memL (x : Int) (l : List Iv) : Prop := ∃ p ∈ l, p.1 ≤ x ∧ x < p.2
/-- Ascending, none empty, none touching the one before; all above b. -/
def NormL (b : Int) : List Iv → Prop
  | [] => True
  | p :: r => b < p.1 ∧ p.1 < p.2 ∧ NormL p.2 r
theorem memL_nil (x : Int) : ¬ memL x [] := fun ⟨_, h, _⟩ => by cases h
theorem memL_cons {x : Int} {p : Iv} {r : List Iv} : memL x (p :: r) ↔ (p.1 ≤ x ∧ x < p.2) ∨ memL x r := by
  unfold memL; simp
theorem memL_append {x : Int} {l r : List Iv} : memL x (l ++ r) ↔ memL x l ∨ memL x r := by
  unfold memL
  constructor
  · rintro ⟨p, hp, h⟩
    rcases List.mem_append.1 hp with h1 | h1
    · exact .inl ⟨p, h1, h⟩
    · exact .inr ⟨p, h1, h⟩
  · rintro (⟨p, hp, h⟩ | ⟨p, hp, h⟩)
    · exact ⟨p, List.mem_append_left _ hp, h⟩
    · exact ⟨p, List.mem_append_right _ hp, h⟩
theorem norm_above : ∀ {l : List Iv} {b x : Int}, NormL b l → memL x l → b < x
  | [], _, _, _, h => absurd h (memL_nil _)
  | p :: r, b, x, hn, h => by
    rcases memL_cons.1 h with h1 | h1
    · have := hn.1; omega
    · have := norm_above hn.2.2 h1; have := hn.1; have := hn.2.1; omega
theorem norm_unique : ∀ {l l' : List Iv} {b : Int}, NormL b l → NormL b l' → (∀ x, memL x l ↔ memL x l') → l = l'
  | [], [], _, _, _, _ => rfl
  | [], p :: r, b, _, hn, h => absurd ((h p.1).2 (memL_cons.2 (.inl ⟨by omega, hn.2.1⟩))) (memL_nil _)
  | p :: r, [], b, hn, _, h => absurd ((h p.1).1 (memL_cons.2 (.inl ⟨by omega, hn.2.1⟩))) (memL_nil _)
  | (a, c) :: r, (a', c') :: r', b, hn, hn', h => by
    obtain ⟨h1, h2, h3⟩ := hn
    obtain ⟨h1', h2', h3'⟩ := hn'
    simp only at h1 h2 h3 h1' h2' h3'
    have low : ∀ {p q : Int} {s : List Iv} {x : Int}, p < q → NormL q s → memL x ((p, q) :: s) → p ≤ x := fun hp hs hm => by
      rcases memL_cons.1 hm with hh | hh
      · exact hh.1
      · have := norm_above hs hh; omega
    have ha : a = a' := by
      have i1 := low h2' h3' ((h a).1 (memL_cons.2 (.inl ⟨by simp, h2⟩)))
      have i2 := low h2 h3 ((h a').2 (memL_cons.2 (.inl ⟨by simp, h2'⟩)))
      omega
    subst ha
    have hc : c = c' := by
      rcases Int.lt_trichotomy c c' with e | e | e
      · have m := (h c).2 (memL_cons.2 (.inl ⟨by simp only; omega, e⟩))
        rcases memL_cons.1 m with hh | hh
        · have := hh.2; simp only at this; omega
        · have := norm_above h3 hh; omega
      · exact e
      · have m := (h c').1 (memL_cons.2 (.inl ⟨by simp only; omega, e⟩))
        rcases memL_cons.1 m with hh | hh
        · have := hh.2; simp only at this; omega
        · have := norm_above h3' hh; omega
    subst hc
    have hr : r = r' := norm_unique h3 h3' (fun x => ⟨fun hm => by
      have hx := norm_above h3 hm
      rcases memL_cons.1 ((h x).1 (memL_cons.2 (.inr hm))) with hh | hh
      · have := hh.2; simp only at this; omega
      · exact hh, fun hm => by
      have hx := norm_above h3' hm
      rcases memL_cons.1 ((h x).2 (memL_cons.2 (.inr hm))) with hh | hh
      · have := hh.2; simp only at this; omega
      · exact hh⟩)
    rw [hr]

/-! ### What is left between taken intervals, from the lowest on -/
def opn (free : Int) : List Iv → List Iv
  | [] => []
  | t :: r => bif decide (free < t.1) then (free, t.1) :: opn (max free t.2) r else opn (max free t.2) r
def freeAt (ts : List Iv) (x : Int) : Prop := ∀ t ∈ ts, ¬ (t.1 ≤ x ∧ x < t.2)
theorem opn_norm : ∀ {ts : List Iv} {e free b : Int}, (∀ t ∈ ts, t.1 < t.2) → b < free → NormL b (opn free (ts ++ [(e, e)]))
  | [], e, free, b, _, hb => by
    show NormL b (bif decide (free < e) then [(free, e)] else [])
    by_cases h : free < e
    · rw [decide_eq_true h]; exact ⟨hb, h, trivial⟩
    · rw [decide_eq_false h]; trivial
  | t :: r, e, free, b, ht, hb => by
    show NormL b (bif decide (free < t.1) then (free, t.1) :: opn (max free t.2) (r ++ [(e, e)]) else opn (max free t.2) (r ++ [(e, e)]))
    have h2 := ht t (List.mem_cons_self ..)
    have hr : ∀ t ∈ r, t.1 < t.2 := fun t h => ht t (List.mem_cons_of_mem _ h)
    by_cases h : free < t.1
    · rw [decide_eq_true h]
      exact ⟨hb, h, opn_norm hr (by omega)⟩
    · rw [decide_eq_false h]
      exact opn_norm hr (by omega)
theorem opn_mem : ∀ {ts : List Iv} {e free x : Int}, ts.Pairwise (fun a b => a.1 ≤ b.1) → (∀ t ∈ ts, t.1 ≤ e) → (memL x (opn free (ts ++ [(e, e)])) ↔ free ≤ x ∧ x < e ∧ freeAt ts x)
  | [], e, free, x, _, _ => by
    show memL x (bif decide (free < e) then [(free, e)] else []) ↔ _
    by_cases h : free < e
    · rw [decide_eq_true h, cond_true, memL_cons]
      exact ⟨fun hh => by
        rcases hh with hh | hh
        · exact ⟨hh.1, hh.2, fun t ht => by cases ht⟩
        · exact absurd hh (memL_nil _), fun ⟨h1, h2, _⟩ => .inl ⟨h1, h2⟩⟩
    · rw [decide_eq_false h]
      exact ⟨fun hh => absurd hh (memL_nil _), fun ⟨h1, h2, _⟩ => by omega⟩
  | t :: r, e, free, x, hs, he => by
    have hs' := List.pairwise_cons.1 hs
    have ih := opn_mem (ts := r) (e := e) (free := max free t.2) (x := x) hs'.2 (fun u hu => he u (List.mem_cons_of_mem _ hu))
    have hte := he t (List.mem_cons_self ..)
    show memL x (bif decide (free < t.1) then (free, t.1) :: opn (max free t.2) (r ++ [(e, e)]) else opn (max free t.2) (r ++ [(e, e)])) ↔ _
    have fa : freeAt (t :: r) x ↔ ¬ (t.1 ≤ x ∧ x < t.2) ∧ freeAt r x := by unfold freeAt; simp
    rw [fa]
    have low : x < t.1 → freeAt r x := fun hx u hu hh => by have := hs'.1 u hu; omega
    by_cases h : free < t.1
    · rw [decide_eq_true h, cond_true, memL_cons, ih]
      constructor
      · rintro (hh | ⟨h1, h2, h3⟩)
        · simp only at hh; exact ⟨by omega, by omega, by omega, low hh.2⟩
        · exact ⟨by omega, h2, by omega, h3⟩
      · rintro ⟨h1, h2, h3, h4⟩
        by_cases hx : x < t.1
        · exact .inl ⟨h1, hx⟩
        · exact .inr ⟨by omega, h2, h4⟩
    · rw [decide_eq_false h, cond_false, ih]
      constructor
      · rintro ⟨h1, h2, h3⟩; exact ⟨by omega, h2, by omega, h3⟩
      · rintro ⟨h1, h2, h3, h4⟩; exact ⟨by omega, h2, h4⟩

/-! ### What the reference makes, from line to line -/
def lastHi (b : Int) (l : List Iv) : Int := match l.getLast? with | some p => p.2 | none => b
theorem norm_snoc : ∀ {l : List Iv} {b : Int} {p : Iv}, NormL b (l ++ [p]) ↔ NormL b l ∧ lastHi b l < p.1 ∧ p.1 < p.2
  | [], b, p => by simp [NormL, lastHi]
  | q :: r, b, p => by
    show b < q.1 ∧ q.1 < q.2 ∧ NormL q.2 (r ++ [p]) ↔ (b < q.1 ∧ q.1 < q.2 ∧ NormL q.2 r) ∧ _
    rw [norm_snoc]
    have e : lastHi b (q :: r) = lastHi q.2 r := by
      unfold lastHi
      rw [List.getLast?_cons]
      cases r.getLast? <;> rfl
    rw [e]
    constructor
    · rintro ⟨h1, h2, h3, h4, h5⟩; exact ⟨⟨h1, h2, h3⟩, h4, h5⟩
    · rintro ⟨⟨h1, h2, h3⟩, h4, h5⟩; exact ⟨h1, h2, h3, h4, h5⟩
/-- One step of the reference: the segment from x to y is clear. -/
def addSeg (l : List Iv) (x y : Int) : List Iv := match l.getLast? with
  | some p => if p.2 = x then l.dropLast ++ [(p.1, y)] else l ++ [(x, y)]
  | none => l ++ [(x, y)]
theorem addSeg_norm {l : List Iv} {b x y : Int} (h : NormL b l) (hb : b < x) (hl : lastHi b l ≤ x) (hxy : x < y) : NormL b (addSeg l x y) ∧ lastHi b (addSeg l x y) = y := by
  unfold addSeg
  cases hg : l.getLast? with
  | none =>
    have hn : l = [] := by simpa using hg
    subst hn
    simp [NormL, lastHi, hb, hxy]
  | some p =>
    obtain ⟨l', rfl⟩ := List.getLast?_eq_some_iff.1 hg
    have hp : lastHi b (l' ++ [p]) = p.2 := by unfold lastHi; simp
    rw [hp] at hl
    have hh := norm_snoc.1 h
    simp only
    by_cases e : p.2 = x
    · rw [if_pos e, List.dropLast_concat]
      refine ⟨norm_snoc.2 ⟨hh.1, hh.2.1, ?_⟩, by unfold lastHi; simp⟩
      have := hh.2.2; simp only; omega
    · rw [if_neg e]
      refine ⟨norm_snoc.2 ⟨h, ?_, hxy⟩, by unfold lastHi; simp⟩
      rw [hp]; simp only; omega
theorem addSeg_mem {l : List Iv} {b x y z : Int} (h : NormL b l) (hxy : x < y) : memL z (addSeg l x y) ↔ memL z l ∨ (x ≤ z ∧ z < y) := by
  unfold addSeg
  cases hg : l.getLast? with
  | none => simp only; rw [memL_append, memL_cons]; simp [memL_nil]
  | some p =>
    obtain ⟨l', rfl⟩ := List.getLast?_eq_some_iff.1 hg
    have hh := norm_snoc.1 h
    simp only
    by_cases e : p.2 = x
    · rw [if_pos e, List.dropLast_concat, memL_append, memL_append, memL_cons, memL_cons]
      have := hh.2.2
      constructor
      · rintro (h1 | h1 | h1)
        · exact .inl (.inl h1)
        · simp only at h1
          by_cases hz : z < p.2
          · exact .inl (.inr (.inl ⟨h1.1, hz⟩))
          · exact .inr ⟨by omega, h1.2⟩
        · exact absurd h1 (memL_nil _)
      · rintro ((h1 | h1 | h1) | h1)
        · exact .inl h1
        · exact .inr (.inl ⟨h1.1, by simp only; omega⟩)
        · exact absurd h1 (memL_nil _)
        · exact .inr (.inl ⟨by simp only; omega, h1.2⟩)
    · rw [if_neg e, memL_append, memL_cons]
      simp [memL_nil]
end Go.Proofs.Ytnjbhidncicfiaa
namespace Go.Proofs.Ytnjbhidncicfiaa

def Asc (l : List Int) : Prop := l.Pairwise (fun a b => a < b)
/-- A number more in an ascending list. -/
def insS (n : Int) : List Int → List Int
  | [] => [n]
  | a :: r => if a = n then a :: r else if a < n then a :: insS n r else n :: a :: r
theorem insS_mem {n x : Int} : ∀ {l : List Int}, x ∈ insS n l ↔ x = n ∨ x ∈ l
  | [] => by simp [insS]
  | a :: r => by
    unfold insS
    by_cases h1 : a = n
    · rw [if_pos h1]; subst h1; simp
    · rw [if_neg h1]
      by_cases h2 : a < n
      · rw [if_pos h2, List.mem_cons, insS_mem, List.mem_cons]
        constructor
        · rintro (h | h | h) <;> simp [h]
        · rintro (h | h | h) <;> simp [h]
      · rw [if_neg h2]; simp
theorem insS_asc {n : Int} : ∀ {l : List Int}, Asc l → Asc (insS n l)
  | [], _ => List.pairwise_singleton _ _
  | a :: r, h => by
    have hp := List.pairwise_cons.1 h
    unfold insS
    by_cases h1 : a = n
    · rw [if_pos h1]; exact h
    · rw [if_neg h1]
      by_cases h2 : a < n
      · rw [if_pos h2]
        refine List.pairwise_cons.2 ⟨fun x hx => ?_, insS_asc hp.2⟩
        rcases insS_mem.1 hx with e | e
        · omega
        · exact hp.1 x e
      · rw [if_neg h2]
        refine List.pairwise_cons.2 ⟨fun x hx => ?_, h⟩
        rcases List.mem_cons.1 hx with e | e
        · omega
        · have := hp.1 x e; omega
theorem asc_lt {l : List Int} (h : Asc l) {i j : Nat} (hij : i < j) (hj : j < l.length) : l[i]'(by omega) < l[j] := List.pairwise_iff_getElem.1 h i j (by omega) hj hij
/-- In an ascending list nothing lies between neighbours. -/
theorem asc_gap {l : List Int} (h : Asc l) {i : Nat} (hi : i + 1 < l.length) {x : Int} (hx : x ∈ l) : x ≤ l[i]'(by omega) ∨ l[i + 1] ≤ x := by
  obtain ⟨k, hk, rfl⟩ := List.mem_iff_getElem.1 hx
  rcases Nat.lt_or_ge k (i + 1) with e | e
  · left
    by_cases e2 : k = i
    · subst e2; exact Int.le_refl _
    · have := asc_lt h (show k < i by omega) (by omega); omega
  · right
    by_cases e2 : k = i + 1
    · subst e2; exact Int.le_refl _
    · have := asc_lt h (show i + 1 < k by omega) hk; omega
def xLines (b : Bd) : List Int := b.df.foldl (fun l d => insS d.x2 (insS d.x1 l)) (insS b.ln [0])
def yLines (b : Bd) : List Int := b.df.foldl (fun l d => insS d.y2 (insS d.y1 l)) (insS b.wd [0])
theorem fold_lines {f g : Rc → Int} : ∀ (ds : List Rc) (l : List Int), Asc l → Asc (ds.foldl (fun l d => insS (g d) (insS (f d) l)) l) ∧ ∀ x, x ∈ ds.foldl (fun l d => insS (g d) (insS (f d) l)) l ↔ x ∈ l ∨ ∃ d ∈ ds, x = f d ∨ x = g d
  | [], l, h => ⟨h, fun x => by simp⟩
  | d :: ds, l, h => by
    obtain ⟨a, m⟩ := fold_lines (f := f) (g := g) ds (insS (g d) (insS (f d) l)) (insS_asc (insS_asc h))
    refine ⟨a, fun x => ?_⟩
    rw [List.foldl_cons, m x, insS_mem, insS_mem]
    constructor
    · rintro ((h | h | h) | ⟨e, he, h⟩)
      · exact .inr ⟨d, List.mem_cons_self .., .inr h⟩
      · exact .inr ⟨d, List.mem_cons_self .., .inl h⟩
      · exact .inl h
      · exact .inr ⟨e, List.mem_cons_of_mem _ he, h⟩
    · rintro (h | ⟨e, he, h⟩)
      · exact .inl (.inr (.inr h))
      · rcases List.mem_cons.1 he with rfl | he
        · rcases h with h | h
          · exact .inl (.inr (.inl h))
          · exact .inl (.inl h)
        · exact .inr ⟨e, he, h⟩
theorem asc_one (x : Int) : Asc [x] := List.pairwise_singleton _ _
theorem xLines_asc (b : Bd) : Asc (xLines b) := (fold_lines b.df _ (insS_asc (asc_one 0))).1
theorem yLines_asc (b : Bd) : Asc (yLines b) := (fold_lines b.df _ (insS_asc (asc_one 0))).1
theorem xLines_mem {b : Bd} {x : Int} : x ∈ xLines b ↔ (x = b.ln ∨ x = 0) ∨ ∃ d ∈ b.df, x = d.x1 ∨ x = d.x2 := by
  unfold xLines; rw [(fold_lines b.df _ (insS_asc (asc_one 0))).2 x, insS_mem]; simp
theorem yLines_mem {b : Bd} {x : Int} : x ∈ yLines b ↔ (x = b.wd ∨ x = 0) ∨ ∃ d ∈ b.df, x = d.y1 ∨ x = d.y2 := by
  unfold yLines; rw [(fold_lines b.df _ (insS_asc (asc_one 0))).2 x, insS_mem]; simp

/-! ### An accepted board -/
structure RcOk (b : Bd) (d : Rc) : Prop where
  x0 : 0 ≤ d.x1
  x12 : d.x1 < d.x2
  x2 : d.x2 ≤ b.ln
  y0 : 0 ≤ d.y1
  y12 : d.y1 < d.y2
  y2 : d.y2 ≤ b.wd
structure BdOk (b : Bd) : Prop where
  l0 : 1 ≤ b.ln
  l1 : b.ln ≤ 600000
  w0 : 1 ≤ b.wd
  w1 : b.wd ≤ 100000
  t0 : 1 ≤ b.th
  t1 : b.th ≤ 20000
  c0 : 0 ≤ b.cu
  c1 : b.cu ≤ 1
  m0 : 0 ≤ b.mo
  m1 : b.mo ≤ 400
  dn : b.df.length ≤ 60
  each : ∀ d ∈ b.df, RcOk b d
theorem rcs_each {b : Bd} : ∀ {l : List Rc}, rcsFrom b l = 0 → ∀ d ∈ l, rcCode b d = 0
  | [], _, _, hd => by cases hd
  | r :: l, h, d, hd => by
    change (bif decide (rcCode b r = 0) then rcsFrom b l else rcCode b r) = 0 at h
    by_cases e : rcCode b r = 0
    · rw [decide_eq_true e] at h
      rcases List.mem_cons.1 hd with rfl | hd
      · exact e
      · exact rcs_each h d hd
    · rw [decide_eq_false e] at h; exact absurd h e
theorem rcOk_of {b : Bd} {d : Rc} (h : rcCode b d = 0) : RcOk b d := by
  unfold rcCode at h
  cases h1 : rcForm d
  · rw [h1] at h; cases h
  · rw [h1] at h
    cases h2 : allIn 0 b.ln [d.x1, d.x2] && allIn 0 b.wd [d.y1, d.y2]
    · rw [h2] at h; cases h
    · rw [Bool.and_eq_true, allIn_iff, allIn_iff] at h2
      unfold rcForm at h1
      simp only [Bool.and_eq_true, decide_eq_true_eq] at h1
      have a1 := h2.1 d.x1 (by simp); have a2 := h2.1 d.x2 (by simp); have a3 := h2.2 d.y1 (by simp); have a4 := h2.2 d.y2 (by simp)
      exact ⟨a1.1, h1.1, a2.2, a3.1, h1.2, a4.2⟩
theorem bdOk_of {b : Bd} (h : bdCode b = 0) : BdOk b := by
  unfold bdCode at h
  cases h1 : nameB b.nm && nameB b.sp
  · rw [h1] at h; cases h
  · rw [h1] at h
    cases h2 : bdRange b
    · rw [h2] at h; cases h
    · rw [h2] at h
      cases h3 : decide (60 < b.df.length)
      · rw [h3] at h
        unfold bdRange at h2
        simp only [Bool.and_eq_true, allIn_iff] at h2
        simp only [decide_eq_false_iff_not] at h3
        obtain ⟨a, b1, c, d, e⟩ := h2
        have a := a b.ln (by simp); have b1 := b1 b.wd (by simp); have c := c b.th (by simp); have d := d b.cu (by simp); have e := e b.mo (by simp)
        exact ⟨a.1, a.2, b1.1, b1.2, c.1, c.2, d.1, d.2, e.1, e.2, by omega, fun r hr => rcOk_of (rcs_each h r hr)⟩
      · rw [h3] at h; cases h
theorem bd_names {b : Bd} (h : bdCode b = 0) : nameB b.nm = true ∧ nameB b.sp = true := by
  unfold bdCode at h
  cases h1 : nameB b.nm && nameB b.sp
  · rw [h1] at h; cases h
  · rw [Bool.and_eq_true] at h1; exact h1

/-! ### Clear lengths -/
def freeX (b : Bd) (x : Int) : Prop := ∀ d ∈ b.df, ¬ (d.x1 ≤ x ∧ x < d.x2)
def IsClear (b : Bd) (l : List Iv) : Prop := NormL (-1) l ∧ ∀ x, memL x l ↔ 0 ≤ x ∧ x < b.ln ∧ freeX b x
theorem clear_unique {b : Bd} {l l' : List Iv} (h : IsClear b l) (h' : IsClear b l') : l = l' := norm_unique h.1 h'.1 fun x => (h.2 x).trans (h'.2 x).symm
def takenX (b : Bd) : List Iv := b.df.map fun d => (d.x1, d.x2)
theorem clear_prog {b : Bd} (hb : BdOk b) {ts : List Iv} (hp : ts.Perm (takenX b)) (hs : ts.Pairwise (fun a b => a.1 ≤ b.1)) : IsClear b (opn 0 (ts ++ [(b.ln, b.ln)])) := by
  have hm : ∀ t, t ∈ ts ↔ t ∈ takenX b := fun t => hp.mem_iff
  have hd : ∀ t ∈ ts, ∃ d ∈ b.df, t = (d.x1, d.x2) := fun t ht => by
    obtain ⟨d, hd, e⟩ := List.mem_map.1 ((hm t).1 ht)
    exact ⟨d, hd, e.symm⟩
  refine ⟨opn_norm (fun t ht => by obtain ⟨d, hd, rfl⟩ := hd t ht; exact (hb.each d hd).x12) (by omega), fun x => ?_⟩
  rw [opn_mem hs (fun t ht => by obtain ⟨d, hd, rfl⟩ := hd t ht; have := (hb.each d hd).x12; have := (hb.each d hd).x2; simp only; omega)]
  refine ⟨fun ⟨h1, h2, h3⟩ => ⟨h1, h2, fun d hd hh => h3 (d.x1, d.x2) ((hm _).2 (List.mem_map.2 ⟨d, hd, rfl⟩)) hh⟩, fun ⟨h1, h2, h3⟩ => ⟨h1, h2, fun t ht hh => ?_⟩⟩
  obtain ⟨d, hd, rfl⟩ := hd t ht
  exact h3 d hd hh
/-- Rectangles. -/
def overB (d r : Rc) : Bool := (decide (d.x1 < r.x2) && decide (r.x1 < d.x2)) && (decide (d.y1 < r.y2) && decide (r.y1 < d.y2))
def soundB (b : Bd) (r : Rc) : Bool := !(b.df.any fun d => overB d r)
theorem overB_iff {d r : Rc} : overB d r = true ↔ (d.x1 < r.x2 ∧ r.x1 < d.x2) ∧ (d.y1 < r.y2 ∧ r.y1 < d.y2) := by unfold overB; simp [Bool.and_eq_true]
theorem soundB_iff {b : Bd} {r : Rc} : soundB b r = true ↔ ∀ d ∈ b.df, ¬ ((d.x1 < r.x2 ∧ r.x1 < d.x2) ∧ (d.y1 < r.y2 ∧ r.y1 < d.y2)) := by
  unfold soundB
  rw [Bool.not_eq_true', List.any_eq_false]
  exact ⟨fun h d hd => fun hh => h d hd (overB_iff.2 hh), fun h d hd => fun hh => h d hd (overB_iff.1 hh)⟩
theorem seg_sound {b : Bd} (hb : BdOk b) {x y : Int} : soundB b ⟨x, 0, y, b.wd⟩ = true ↔ ∀ d ∈ b.df, ¬ (d.x1 < y ∧ x < d.x2) := by
  rw [soundB_iff]
  refine ⟨fun h d hd hh => h d hd ⟨hh, ?_⟩, fun h d hd hh => h d hd hh.1⟩
  have := hb.each d hd
  have := this.y0; have := (hb.each d hd).y12; have := (hb.each d hd).y2
  simp only; omega
/-- What the reference has behind the first i lines. -/
def clrTo (b : Bd) (xs : List Int) : Nat → List Iv
  | 0 => []
  | i + 1 => bif soundB b ⟨xs.getD i 0, 0, xs.getD (i + 1) 0, b.wd⟩ then addSeg (clrTo b xs i) (xs.getD i 0) (xs.getD (i + 1) 0) else clrTo b xs i
theorem x_first {b : Bd} (hb : BdOk b) : (xLines b).getD 0 0 = 0 ∧ 2 ≤ (xLines b).length ∧ (xLines b).getD ((xLines b).length - 1) 0 = b.ln := by
  have asc := xLines_asc b
  have m0 : (0 : Int) ∈ xLines b := xLines_mem.2 (.inl (.inr rfl))
  have mL : b.ln ∈ xLines b := xLines_mem.2 (.inl (.inl rfl))
  have hge : ∀ x ∈ xLines b, 0 ≤ x ∧ x ≤ b.ln := fun x hx => by
    have := hb.l0
    rcases xLines_mem.1 hx with (h | h) | ⟨d, hd, h | h⟩
    · omega
    · omega
    · have := hb.each d hd; have := this.x0; have := (hb.each d hd).x12; have := (hb.each d hd).x2; omega
    · have := hb.each d hd; have := this.x0; have := (hb.each d hd).x12; have := (hb.each d hd).x2; omega
  obtain ⟨i, hi, e0⟩ := List.mem_iff_getElem.1 m0
  obtain ⟨j, hj, eL⟩ := List.mem_iff_getElem.1 mL
  have hl0 := hb.l0
  have hij : i ≠ j := fun e => by subst e; rw [e0] at eL; omega
  have i0 : i = 0 := by
    rcases Nat.eq_zero_or_pos i with h | h
    · exact h
    · have h1 := asc_lt asc h hi
      have h2 := (hge _ (List.getElem_mem (show 0 < (xLines b).length by omega))).1
      rw [e0] at h1; omega
  have jl : j = (xLines b).length - 1 := by
    rcases Nat.lt_or_ge j ((xLines b).length - 1) with h | h
    · have h1 := asc_lt asc h (by omega)
      have h2 := (hge _ (List.getElem_mem (show (xLines b).length - 1 < (xLines b).length by omega))).2
      rw [eL] at h1; omega
    · omega
  refine ⟨by rw [getD_at (by omega)]; subst i0; exact e0, by omega, by rw [getD_at (by omega)]; subst jl; exact eL⟩
theorem clr_inv {b : Bd} (hb : BdOk b) : ∀ i, i < (xLines b).length → NormL (-1) (clrTo b (xLines b) i) ∧ lastHi (-1) (clrTo b (xLines b) i) ≤ (xLines b).getD i 0 ∧
    ∀ x, memL x (clrTo b (xLines b) i) ↔ 0 ≤ x ∧ x < (xLines b).getD i 0 ∧ freeX b x
  | 0, _ => by
    have h0 := (x_first hb).1
    refine ⟨trivial, by rw [h0]; simp [clrTo, lastHi], fun x => ?_⟩
    rw [h0]
    exact ⟨fun h => absurd h (memL_nil _), fun ⟨h1, h2, _⟩ => by omega⟩
  | i + 1, hi => by
    obtain ⟨n, hl, m⟩ := clr_inv hb i (by omega)
    have asc := xLines_asc b
    have e1 : (xLines b).getD i 0 = (xLines b)[i]'(by omega) := getD_at (by omega)
    have e2 : (xLines b).getD (i + 1) 0 = (xLines b)[i + 1] := getD_at hi
    have hxy := asc_lt asc (show i < i + 1 by omega) hi
    have gap := fun x hx => asc_gap asc hi (x := x) hx
    rw [← e1, ← e2] at hxy
    rw [← e1, ← e2] at gap
    have x0 : 0 ≤ (xLines b).getD i 0 := by
      have z := (x_first hb).1
      rcases Nat.eq_zero_or_pos i with h | h
      · subst h; omega
      · have z1 : (xLines b).getD 0 0 = (xLines b)[0]'(by omega) := getD_at (by omega)
        have := asc_lt asc h (by omega); omega
    have inside : ∀ x, (xLines b).getD i 0 ≤ x → x < (xLines b).getD (i + 1) 0 → (freeX b x ↔ soundB b ⟨(xLines b).getD i 0, 0, (xLines b).getD (i + 1) 0, b.wd⟩ = true) := fun x h1 h2 => by
      rw [seg_sound hb]
      constructor
      · intro hf d hd hh
        apply hf d hd
        have g1 := gap d.x1 (xLines_mem.2 (.inr ⟨d, hd, .inl rfl⟩))
        have g2 := gap d.x2 (xLines_mem.2 (.inr ⟨d, hd, .inr rfl⟩))
        omega
      · intro hf d hd hh
        apply hf d hd
        omega
    show NormL (-1) (bif soundB b ⟨(xLines b).getD i 0, 0, (xLines b).getD (i + 1) 0, b.wd⟩ then addSeg (clrTo b (xLines b) i) ((xLines b).getD i 0) ((xLines b).getD (i + 1) 0) else clrTo b (xLines b) i) ∧ lastHi (-1) (bif soundB b ⟨(xLines b).getD i 0, 0, (xLines b).getD (i + 1) 0, b.wd⟩ then addSeg (clrTo b (xLines b) i) ((xLines b).getD i 0) ((xLines b).getD (i + 1) 0) else clrTo b (xLines b) i) ≤ _ ∧ ∀ x, memL x (bif soundB b ⟨(xLines b).getD i 0, 0, (xLines b).getD (i + 1) 0, b.wd⟩ then addSeg (clrTo b (xLines b) i) ((xLines b).getD i 0) ((xLines b).getD (i + 1) 0) else clrTo b (xLines b) i) ↔ _
    cases hs : soundB b ⟨(xLines b).getD i 0, 0, (xLines b).getD (i + 1) 0, b.wd⟩
    · rw [cond_false]
      refine ⟨n, by omega, fun x => ?_⟩
      rw [m x]
      refine ⟨fun ⟨h1, h2, h3⟩ => ⟨h1, by omega, h3⟩, fun ⟨h1, h2, h3⟩ => ⟨h1, ?_, h3⟩⟩
      by_cases h : x < (xLines b).getD i 0
      · exact h
      · have := (inside x (by omega) h2).1 h3; rw [hs] at this; cases this
    · rw [cond_true]
      obtain ⟨a1, a2⟩ := addSeg_norm n (show (-1 : Int) < (xLines b).getD i 0 by omega) hl hxy
      refine ⟨a1, by rw [a2]; omega, fun x => ?_⟩
      rw [addSeg_mem n hxy, m x]
      constructor
      · rintro (⟨h1, h2, h3⟩ | ⟨h1, h2⟩)
        · exact ⟨h1, by omega, h3⟩
        · exact ⟨by omega, h2, (inside x h1 h2).2 hs⟩
      · rintro ⟨h1, h2, h3⟩
        by_cases h : x < (xLines b).getD i 0
        · exact .inl ⟨h1, h, h3⟩
        · exact .inr ⟨by omega, h2⟩
theorem clear_ref {b : Bd} (hb : BdOk b) : IsClear b (clrTo b (xLines b) ((xLines b).length - 1)) := by
  obtain ⟨_, h2, h3⟩ := x_first hb
  obtain ⟨n, _, m⟩ := clr_inv hb ((xLines b).length - 1) (by omega)
  exact ⟨n, fun x => by rw [m x, h3]⟩
end Go.Proofs.Ytnjbhidncicfiaa
namespace Go.Proofs.Ytnjbhidncicfiaa

/-! ### Sums over ranges of whole numbers -/
def sumN (f : Int → Int) (a : Int) : Nat → Int
  | 0 => 0
  | n + 1 => sumN f a n + f (a + n)
def rs (f : Int → Int) (a b : Int) : Int := sumN f a (b - a).toNat
theorem sumN_add (f : Int → Int) (a : Int) (n : Nat) : ∀ m : Nat, sumN f a (n + m) = sumN f a n + sumN f (a + n) m
  | 0 => by simp [sumN]
  | m + 1 => by
    show sumN f a (n + m) + f (a + ((n + m : Nat) : Int)) = sumN f a n + (sumN f (a + n) m + f (a + n + m))
    rw [sumN_add f a n m, show a + ((n + m : Nat) : Int) = a + n + m by omega]; omega
theorem rs_split {f : Int → Int} {a b c : Int} (h1 : a ≤ b) (h2 : b ≤ c) : rs f a c = rs f a b + rs f b c := by
  unfold rs
  rw [show (c - a).toNat = (b - a).toNat + (c - b).toNat by omega, sumN_add, show a + (((b - a).toNat : Nat) : Int) = b by omega]
theorem sumN_congr {f g : Int → Int} {a : Int} : ∀ {n : Nat}, (∀ x, a ≤ x → x < a + n → f x = g x) → sumN f a n = sumN g a n
  | 0, _ => rfl
  | n + 1, h => by
    show sumN f a n + f (a + n) = sumN g a n + g (a + n)
    rw [sumN_congr fun x h1 h2 => h x h1 (by omega), h (a + n) (by omega) (by omega)]
theorem rs_congr {f g : Int → Int} {a b : Int} (h : ∀ x, a ≤ x → x < b → f x = g x) : rs f a b = rs g a b := by
  unfold rs
  refine sumN_congr fun x h1 h2 => h x h1 (by omega)
theorem sumN_const (c a : Int) : ∀ n : Nat, sumN (fun _ => c) a n = n * c
  | 0 => by simp [sumN]
  | n + 1 => by
    show sumN (fun _ => c) a n + c = _
    rw [sumN_const c a n]
    have : ((n + 1 : Nat) : Int) = (n : Int) + 1 := by omega
    rw [this, Int.add_mul, Int.one_mul]
theorem rs_const {f : Int → Int} {c a b : Int} (hab : a ≤ b) (h : ∀ x, a ≤ x → x < b → f x = c) : rs f a b = (b - a) * c := by
  rw [rs_congr (g := fun _ => c) h]
  unfold rs
  rw [sumN_const, show (((b - a).toNat : Nat) : Int) = b - a by omega]
theorem rs_same (f : Int → Int) (a : Int) : rs f a a = 0 := by unfold rs; rw [Int.sub_self]; rfl
theorem sumN_bounds {f : Int → Int} {a M : Int} (h : ∀ x, 0 ≤ f x ∧ f x ≤ M) : ∀ n : Nat, 0 ≤ sumN f a n ∧ sumN f a n ≤ n * M
  | 0 => by simp [sumN]
  | n + 1 => by
    obtain ⟨h1, h2⟩ := sumN_bounds (a := a) h n
    obtain ⟨h3, h4⟩ := h (a + n)
    have : ((n + 1 : Nat) : Int) = (n : Int) + 1 := by omega
    rw [this, Int.add_mul, Int.one_mul]
    show 0 ≤ sumN f a n + f (a + n) ∧ sumN f a n + f (a + n) ≤ _
    omega
theorem rs_bounds {f : Int → Int} {a b M : Int} (hab : a ≤ b) (h : ∀ x, 0 ≤ f x ∧ f x ≤ M) : 0 ≤ rs f a b ∧ rs f a b ≤ (b - a) * M := by
  have := sumN_bounds (a := a) h (b - a).toNat
  rw [show (((b - a).toNat : Nat) : Int) = b - a by omega] at this
  exact this

/-! ### The lengths of intervals that are apart -/
def oneIf (b : Bool) : Int := bif b then 1 else 0
theorem oneIf_bounds (b : Bool) : 0 ≤ oneIf b ∧ oneIf b ≤ 1 := by cases b <;> decide
def memB (l : List Iv) (x : Int) : Bool := l.any fun p => decide (p.1 ≤ x) && decide (x < p.2)
theorem memB_iff {l : List Iv} {x : Int} : memB l x = true ↔ memL x l := by
  unfold memB memL
  rw [List.any_eq_true]
  simp [Bool.and_eq_true]
def lens : List Iv → Int
  | [] => 0
  | p :: r => (p.2 - p.1) + lens r
theorem lens_append (l r : List Iv) : lens (l ++ r) = lens l + lens r := by
  induction l with
  | nil => simp [lens]
  | cons p l ih => simp only [List.cons_append, lens, ih]; omega
theorem lens_sum : ∀ {l : List Iv} {b c W : Int}, NormL b l → c ≤ b + 1 → c ≤ W → (∀ x, memL x l → x < W) → rs (fun x => oneIf (memB l x)) c W = lens l
  | [], b, c, W, _, _, hw, _ => by
    rw [rs_const (f := fun x => oneIf (memB [] x)) (c := 0) hw fun x _ _ => rfl, Int.mul_zero]; rfl
  | p :: r, b, c, W, hn, hc, hw, hm => by
    obtain ⟨h1, h2, h3⟩ := hn
    have hpw : p.2 ≤ W := by
      have := hm (p.2 - 1) (memL_cons.2 (.inl ⟨by omega, by omega⟩)); omega
    have ih := lens_sum (c := p.2) (W := W) h3 (by omega) hpw fun x hx => hm x (memL_cons.2 (.inr hx))
    have e1 : rs (fun x => oneIf (memB (p :: r) x)) c p.1 = 0 := by
      rw [rs_const (c := 0) (by omega) fun x h4 h5 => ?_, Int.mul_zero]
      have : memB (p :: r) x = false := by
        rw [← Bool.not_eq_true, memB_iff, memL_cons]
        rintro (hh | hh)
        · omega
        · have := norm_above h3 hh; omega
      simp only [this]; rfl
    have e2 : rs (fun x => oneIf (memB (p :: r) x)) p.1 p.2 = p.2 - p.1 := by
      rw [rs_const (c := 1) (by omega) fun x h4 h5 => ?_, Int.mul_one]
      have : memB (p :: r) x = true := memB_iff.2 (memL_cons.2 (.inl ⟨h4, h5⟩))
      simp only [this]; rfl
    have e3 : rs (fun x => oneIf (memB (p :: r) x)) p.2 W = lens r := by
      rw [← ih]
      refine rs_congr fun x h4 h5 => ?_
      have : memB (p :: r) x = memB r x := by
        rw [Bool.eq_iff_iff, memB_iff, memB_iff, memL_cons]
        exact ⟨fun h => by rcases h with h | h; exact absurd h (by omega); exact h, .inr⟩
      simp only [this]
    rw [rs_split (b := p.1) (by omega) (by omega), rs_split (a := p.1) (b := p.2) (by omega) hpw, e1, e2, e3]
    show 0 + (p.2 - p.1 + lens r) = (p.2 - p.1) + lens r
    omega
theorem rs_not (g : Int → Bool) (a : Int) : ∀ n : Nat, sumN (fun x => oneIf (!g x)) a n = n - sumN (fun x => oneIf (g x)) a n
  | 0 => rfl
  | n + 1 => by
    show sumN (fun x => oneIf (!g x)) a n + oneIf (!g (a + n)) = ((n + 1 : Nat) : Int) - (sumN (fun x => oneIf (g x)) a n + oneIf (g (a + n)))
    rw [rs_not g a n]
    have : oneIf (!g (a + n)) = 1 - oneIf (g (a + n)) := by cases g (a + n) <;> rfl
    rw [this]; omega

/-! ### The covered part of a board -/
def covB (b : Bd) (x y : Int) : Bool := b.df.any fun d => (decide (d.x1 ≤ x) && decide (x < d.x2)) && (decide (d.y1 ≤ y) && decide (y < d.y2))
theorem covB_iff {b : Bd} {x y : Int} : covB b x y = true ↔ ∃ d ∈ b.df, (d.x1 ≤ x ∧ x < d.x2) ∧ (d.y1 ≤ y ∧ y < d.y2) := by
  unfold covB; rw [List.any_eq_true]; simp [Bool.and_eq_true]
def colF (b : Bd) (x : Int) : Int := rs (fun y => oneIf (covB b x y)) 0 b.wd
def covered (b : Bd) : Int := rs (colF b) 0 b.ln
theorem col_bounds {b : Bd} (hb : BdOk b) (x : Int) : 0 ≤ colF b x ∧ colF b x ≤ b.wd := by
  have h0 := hb.w0
  have := rs_bounds (a := 0) (b := b.wd) (M := 1) (f := fun y => oneIf (covB b x y)) (by omega) fun y => oneIf_bounds _
  unfold colF; omega

/-! ### The program's strips -/
/-- What lies across, from a to e. -/
def acrossL (b : Bd) (a e : Int) : List Iv := (b.df.filter fun d => decide (d.x1 < e) && decide (a < d.x2)).map fun d => (d.y1, d.y2)
theorem acrossL_mem {b : Bd} {a e : Int} {t : Iv} : t ∈ acrossL b a e ↔ ∃ d ∈ b.df, (d.x1 < e ∧ a < d.x2) ∧ t = (d.y1, d.y2) := by
  unfold acrossL
  rw [List.mem_map]
  constructor
  · rintro ⟨d, hd, rfl⟩
    rw [List.mem_filter] at hd
    exact ⟨d, hd.1, by simpa [Bool.and_eq_true] using hd.2, rfl⟩
  · rintro ⟨d, hd, h, rfl⟩
    exact ⟨d, List.mem_filter.2 ⟨hd, by simpa [Bool.and_eq_true] using h⟩, rfl⟩
/-- What is open between taken intervals, up to W. -/
def IsOpen (ts : List Iv) (W : Int) (l : List Iv) : Prop := NormL (-1) l ∧ ∀ x, memL x l ↔ 0 ≤ x ∧ x < W ∧ freeAt ts x
theorem open_prog {ts us : List Iv} {W : Int} (hts : ∀ t ∈ ts, t.1 < t.2 ∧ t.2 ≤ W) (hp : us.Perm ts) (hs : us.Pairwise (fun a b => a.1 ≤ b.1)) : IsOpen ts W (opn 0 (us ++ [(W, W)])) := by
  have hm : ∀ t, t ∈ us ↔ t ∈ ts := fun t => hp.mem_iff
  refine ⟨opn_norm (fun t ht => (hts t ((hm t).1 ht)).1) (by omega), fun x => ?_⟩
  rw [opn_mem hs (fun t ht => by have := hts t ((hm t).1 ht); omega)]
  exact ⟨fun ⟨h1, h2, h3⟩ => ⟨h1, h2, fun t ht => h3 t ((hm t).2 ht)⟩, fun ⟨h1, h2, h3⟩ => ⟨h1, h2, fun t ht => h3 t ((hm t).1 ht)⟩⟩
theorem open_unique {ts l l' : List Iv} {W : Int} (h : IsOpen ts W l) (h' : IsOpen ts W l') : l = l' := norm_unique h.1 h'.1 fun x => (h.2 x).trans (h'.2 x).symm
theorem open_each {ts l : List Iv} {W : Int} (h : IsOpen ts W l) : ∀ p ∈ l, 0 ≤ p.1 ∧ p.1 < p.2 ∧ p.2 ≤ W := by
  have key : ∀ {l : List Iv} {b : Int}, NormL b l → ∀ p ∈ l, b < p.1 ∧ p.1 < p.2 := by
    intro l
    induction l with
    | nil => intro b _ p hp; cases hp
    | cons q r ih =>
      intro b hn p hp
      rcases List.mem_cons.1 hp with rfl | hp
      · exact ⟨hn.1, hn.2.1⟩
      · have := ih hn.2.2 p hp; have := hn.1; have := hn.2.1; omega
  intro p hp
  have h1 := key h.1 p hp
  have h2 := (h.2 (p.2 - 1)).1 ⟨p, hp, by omega, by omega⟩
  omega
theorem open_lens {b : Bd} (hb : BdOk b) {a e : Int} {l : List Iv} (h : IsOpen (acrossL b a e) b.wd l) {x : Int} (hx : ∀ d ∈ b.df, (d.x1 < e ∧ a < d.x2) ↔ (d.x1 ≤ x ∧ x < d.x2)) : b.wd - lens l = colF b x := by
  have hw := hb.w0
  rw [← lens_sum h.1 (c := 0) (W := b.wd) (by omega) (by omega) fun x hx => ((h.2 x).1 hx).2.1]
  unfold colF
  have e1 : rs (fun y => oneIf (covB b x y)) 0 b.wd = rs (fun y => oneIf (!memB l y)) 0 b.wd := by
    refine rs_congr fun y h1 h2 => ?_
    have : covB b x y = !memB l y := by
      rw [Bool.eq_iff_iff, covB_iff, Bool.not_eq_true', ← Bool.not_eq_true, memB_iff, h.2 y]
      constructor
      · rintro ⟨d, hd, h3, h4⟩ ⟨_, _, h5⟩
        exact h5 (d.y1, d.y2) (acrossL_mem.2 ⟨d, hd, (hx d hd).2 h3, rfl⟩) h4
      · intro hn
        apply Decidable.byContradiction
        intro hno
        refine hn ⟨h1, h2, fun t ht hh => ?_⟩
        obtain ⟨d, hd, h3, rfl⟩ := acrossL_mem.1 ht
        exact hno ⟨d, hd, (hx d hd).1 h3, hh⟩
    rw [this]
  rw [e1]
  unfold rs
  rw [rs_not, show (((b.wd - 0).toNat : Nat) : Int) = b.wd by omega]
/-- What the program adds up, strip by strip. -/
def stripW (b : Bd) (a e : Int) : Int := b.wd - lens (opn 0 (((acrossL b a e).mergeSort fun p q => decide (p.1 ≤ q.1)) ++ [(b.wd, b.wd)]))
def strips (b : Bd) : Int → List Int → Int
  | _, [] => 0
  | a, e :: r => (e - a) * stripW b a e + strips b e r
theorem across_ok {b : Bd} (hb : BdOk b) (a e : Int) : ∀ t ∈ acrossL b a e, t.1 < t.2 ∧ t.2 ≤ b.wd := fun t ht => by
  obtain ⟨d, hd, _, rfl⟩ := acrossL_mem.1 ht
  exact ⟨(hb.each d hd).y12, (hb.each d hd).y2⟩
theorem strip_open {b : Bd} (hb : BdOk b) (a e : Int) : IsOpen (acrossL b a e) b.wd (opn 0 (((acrossL b a e).mergeSort fun p q => decide (p.1 ≤ q.1)) ++ [(b.wd, b.wd)])) := by
  refine open_prog (across_ok hb a e) (List.mergeSort_perm _ _) ?_
  have := List.pairwise_mergeSort (le := fun (p q : Iv) => decide (p.1 ≤ q.1)) (fun a b c h1 h2 => by simp only [decide_eq_true_eq] at *; omega) (fun a b => by simp only [Bool.or_eq_true, decide_eq_true_eq]; omega) (acrossL b a e)
  exact this.imp fun h => by simpa using h
theorem strip_of {b : Bd} (hb : BdOk b) {a e : Int} {l : List Iv} (h : IsOpen (acrossL b a e) b.wd l) : b.wd - lens l = stripW b a e := by
  rw [open_unique h (strip_open hb a e)]; rfl
theorem lens_bounds : ∀ {l : List Iv} {b W : Int}, NormL b l → (∀ p ∈ l, p.2 ≤ W) → b ≤ W → 0 ≤ lens l ∧ lens l ≤ W - b
  | [], _, _, _, _, h => by simp [lens]; omega
  | p :: r, b, W, hn, hw, hb => by
    have h1 := hw p (List.mem_cons_self ..)
    have := lens_bounds (l := r) (b := p.2) (W := W) hn.2.2 (fun q hq => hw q (List.mem_cons_of_mem _ hq)) h1
    have h2 := hn.1; have h3 := hn.2.1
    simp only [lens]; omega
theorem strip_bounds {b : Bd} (hb : BdOk b) (a e : Int) : 0 ≤ stripW b a e ∧ stripW b a e ≤ b.wd := by
  have h := strip_open hb a e
  have hw := hb.w0
  have h1 := lens_sum h.1 (c := 0) (W := b.wd) (by omega) (by omega) fun x hx => ((h.2 x).1 hx).2.1
  have h2 := rs_bounds (a := 0) (b := b.wd) (M := 1) (f := fun x => oneIf (memB (opn 0 (((acrossL b a e).mergeSort fun p q => decide (p.1 ≤ q.1)) ++ [(b.wd, b.wd)])) x)) (by omega) fun y => oneIf_bounds _
  unfold stripW
  omega
theorem strips_sum {b : Bd} (hb : BdOk b) : ∀ {l : List Int} {a : Int}, 0 ≤ a → a ≤ b.ln → l.Pairwise (fun x y => x ≤ y) → (∀ v ∈ l, a ≤ v ∧ v ≤ b.ln) → (∀ d ∈ b.df, (d.x1 ≤ a ∨ d.x1 ∈ l) ∧ (d.x2 ≤ a ∨ d.x2 ∈ l)) → strips b a l = rs (colF b) a b.ln
  | [], a, h0, h1, _, _, hd => by
    rw [rs_const (c := 0) h1 fun x h2 h3 => ?_, Int.mul_zero]; rfl
    unfold colF
    rw [rs_const (c := 0) (by have := hb.w0; omega) fun y _ _ => ?_, Int.mul_zero]
    have : covB b x y = false := by
      rw [← Bool.not_eq_true, covB_iff]
      rintro ⟨d, hdd, h4, _⟩
      rcases (hd d hdd).2 with h | h
      · omega
      · cases h
    rw [this]; rfl
  | e :: r, a, h0, h1, hs, hv, hd => by
    have hs' := List.pairwise_cons.1 hs
    have hve := hv e (List.mem_cons_self ..)
    have side : ∀ v : Int, (v ≤ a ∨ v ∈ e :: r) → v ≤ a ∨ e ≤ v := fun v hh => by
      rcases hh with h | h
      · exact .inl h
      · rcases List.mem_cons.1 h with rfl | h
        · exact .inr (Int.le_refl _)
        · exact .inr (hs'.1 v h)
    have ih := strips_sum hb (l := r) (a := e) (by omega) hve.2 hs'.2 (fun v h => ⟨hs'.1 v h, (hv v (List.mem_cons_of_mem _ h)).2⟩) (fun d hdd => by
      have h2 := hd d hdd
      constructor
      · rcases h2.1 with h | h
        · exact .inl (by omega)
        · rcases List.mem_cons.1 h with h | h
          · exact .inl (by omega)
          · exact .inr h
      · rcases h2.2 with h | h
        · exact .inl (by omega)
        · rcases List.mem_cons.1 h with h | h
          · exact .inl (by omega)
          · exact .inr h)
    show (e - a) * stripW b a e + strips b e r = _
    rw [ih, rs_split hve.1 hve.2]
    congr 1
    symm
    refine rs_const hve.1 fun x h2 h3 => ?_
    rw [← open_lens hb (strip_open hb a e) (x := x) fun d hdd => ?_]
    · rfl
    · have g1 := side d.x1 (hd d hdd).1
      have g2 := side d.x2 (hd d hdd).2
      constructor
      · rintro ⟨h4, h5⟩; omega
      · rintro ⟨h4, h5⟩; omega
def endsL (b : Bd) : List Int := b.df.flatMap fun d => [d.x1, d.x2]
theorem endsL_mem {b : Bd} {v : Int} : v ∈ endsL b ↔ ∃ d ∈ b.df, v = d.x1 ∨ v = d.x2 := by
  unfold endsL; rw [List.mem_flatMap]; simp
theorem strips_covered {b : Bd} (hb : BdOk b) {es : List Int} (hp : es.Perm (endsL b)) (hs : es.Pairwise (fun x y => x ≤ y)) : strips b 0 es = covered b := by
  have hl := hb.l0
  have hm : ∀ v, v ∈ es ↔ v ∈ endsL b := fun v => hp.mem_iff
  refine strips_sum hb (by omega) (by omega) hs (fun v hv => ?_) (fun d hd => ⟨.inr ((hm _).2 (endsL_mem.2 ⟨d, hd, .inl rfl⟩)), .inr ((hm _).2 (endsL_mem.2 ⟨d, hd, .inr rfl⟩))⟩)
  obtain ⟨d, hd, h⟩ := endsL_mem.1 ((hm v).1 hv)
  have g := hb.each d hd
  have := g.x0; have := g.x12; have := g.x2
  omega
theorem ends_mem {b : Bd} (hb : BdOk b) {v : Int} (h : v ∈ endsL b) : 0 ≤ v ∧ v ≤ b.ln := by
  obtain ⟨d, hd, h⟩ := endsL_mem.1 h
  have g := hb.each d hd
  have := g.x0; have := g.x12; have := g.x2
  omega

/-! ### The reference's net -/
def rowTo (b : Bd) (x1 x2 : Int) (ys : List Int) : Nat → Int
  | 0 => 0
  | k + 1 => bif soundB b ⟨x1, ys.getD k 0, x2, ys.getD (k + 1) 0⟩ then rowTo b x1 x2 ys k else rowTo b x1 x2 ys k + (x2 - x1) * (ys.getD (k + 1) 0 - ys.getD k 0)
def netTo (b : Bd) (xs ys : List Int) : Nat → Int
  | 0 => 0
  | i + 1 => netTo b xs ys i + rowTo b (xs.getD i 0) (xs.getD (i + 1) 0) ys (ys.length - 1)
theorem y_first {b : Bd} (hb : BdOk b) : (yLines b).getD 0 0 = 0 ∧ 2 ≤ (yLines b).length ∧ (yLines b).getD ((yLines b).length - 1) 0 = b.wd := by
  have asc := yLines_asc b
  have m0 : (0 : Int) ∈ yLines b := yLines_mem.2 (.inl (.inr rfl))
  have mL : b.wd ∈ yLines b := yLines_mem.2 (.inl (.inl rfl))
  have hge : ∀ x ∈ yLines b, 0 ≤ x ∧ x ≤ b.wd := fun x hx => by
    have := hb.w0
    rcases yLines_mem.1 hx with (h | h) | ⟨d, hd, h | h⟩
    · omega
    · omega
    · have := hb.each d hd; have := this.y0; have := (hb.each d hd).y12; have := (hb.each d hd).y2; omega
    · have := hb.each d hd; have := this.y0; have := (hb.each d hd).y12; have := (hb.each d hd).y2; omega
  obtain ⟨i, hi, e0⟩ := List.mem_iff_getElem.1 m0
  obtain ⟨j, hj, eL⟩ := List.mem_iff_getElem.1 mL
  have hl0 := hb.w0
  have hij : i ≠ j := fun e => by subst e; rw [e0] at eL; omega
  have i0 : i = 0 := by
    rcases Nat.eq_zero_or_pos i with h | h
    · exact h
    · have h1 := asc_lt asc h hi
      have h2 := (hge _ (List.getElem_mem (show 0 < (yLines b).length by omega))).1
      rw [e0] at h1; omega
  have jl : j = (yLines b).length - 1 := by
    rcases Nat.lt_or_ge j ((yLines b).length - 1) with h | h
    · have h1 := asc_lt asc h (by omega)
      have h2 := (hge _ (List.getElem_mem (show (yLines b).length - 1 < (yLines b).length by omega))).2
      rw [eL] at h1; omega
    · omega
  refine ⟨by rw [getD_at (by omega)]; subst i0; exact e0, by omega, by rw [getD_at (by omega)]; subst jl; exact eL⟩
theorem line_step {ls : List Int} (asc : Asc ls) {i : Nat} (hi : i + 1 < ls.length) : ls.getD i 0 < ls.getD (i + 1) 0 ∧ ∀ x ∈ ls, x ≤ ls.getD i 0 ∨ ls.getD (i + 1) 0 ≤ x := by
  have e1 : ls.getD i 0 = ls[i]'(by omega) := getD_at (by omega)
  have e2 : ls.getD (i + 1) 0 = ls[i + 1] := getD_at hi
  rw [e1, e2]
  exact ⟨asc_lt asc (show i < i + 1 by omega) hi, fun x hx => asc_gap asc hi hx⟩
theorem line_ge {ls : List Int} (asc : Asc ls) (h0 : ls.getD 0 0 = 0) : ∀ {i : Nat}, i < ls.length → 0 ≤ ls.getD i 0
  | 0, _ => by omega
  | i + 1, hi => by have := line_ge asc h0 (i := i) (by omega); have := (line_step asc hi).1; omega
theorem line_le {ls : List Int} (asc : Asc ls) {M : Int} (h1 : ls.getD (ls.length - 1) 0 = M) : ∀ {i : Nat}, i < ls.length → ls.getD i 0 ≤ M := fun {i} hi => by
  rcases Nat.lt_or_ge i (ls.length - 1) with h | h
  · have := asc_lt asc (i := i) (j := ls.length - 1) h (by omega)
    rw [getD_at hi]; rw [getD_at (by omega)] at h1; omega
  · rw [show i = ls.length - 1 by omega]; omega
theorem row_sum {b : Bd} (hb : BdOk b) {x1 x2 x : Int} (hx : x1 ≤ x ∧ x < x2) (hgap : ∀ d ∈ b.df, (d.x1 ≤ x1 ∨ x2 ≤ d.x1) ∧ (d.x2 ≤ x1 ∨ x2 ≤ d.x2)) : ∀ k, k < (yLines b).length → rowTo b x1 x2 (yLines b) k = (x2 - x1) * rs (fun y => oneIf (covB b x y)) 0 ((yLines b).getD k 0)
  | 0, _ => by rw [(y_first hb).1, rs_same, Int.mul_zero]; rfl
  | k + 1, hk => by
    have asc := yLines_asc b
    obtain ⟨h1, h2⟩ := line_step asc hk
    have h0 := line_ge asc (y_first hb).1 (i := k) (by omega)
    have ih := row_sum hb hx hgap k (by omega)
    rw [rs_split h0 (by omega : (yLines b).getD k 0 ≤ (yLines b).getD (k + 1) 0), Int.mul_add, ← ih]
    have hconst : ∀ y, (yLines b).getD k 0 ≤ y → y < (yLines b).getD (k + 1) 0 → covB b x y = !soundB b ⟨x1, (yLines b).getD k 0, x2, (yLines b).getD (k + 1) 0⟩ := fun y h3 h4 => by
      rw [Bool.eq_iff_iff, Bool.not_eq_true', ← Bool.not_eq_true, soundB_iff, covB_iff]
      constructor
      · rintro ⟨d, hd, h5, h6⟩ hno
        refine hno d hd ?_
        simp only
        omega
      · intro hno
        apply Decidable.byContradiction
        intro hn
        refine hno fun d hd hh => hn ⟨d, hd, ?_⟩
        simp only at hh
        have g1 := hgap d hd
        have g2 := h2 d.y1 (yLines_mem.2 (.inr ⟨d, hd, .inl rfl⟩))
        have g3 := h2 d.y2 (yLines_mem.2 (.inr ⟨d, hd, .inr rfl⟩))
        omega
    show (bif soundB b ⟨x1, (yLines b).getD k 0, x2, (yLines b).getD (k + 1) 0⟩ then rowTo b x1 x2 (yLines b) k else rowTo b x1 x2 (yLines b) k + (x2 - x1) * ((yLines b).getD (k + 1) 0 - (yLines b).getD k 0)) = _
    cases hs : soundB b ⟨x1, (yLines b).getD k 0, x2, (yLines b).getD (k + 1) 0⟩
    · rw [cond_false, rs_const (c := 1) (by omega) fun y h3 h4 => by rw [hconst y h3 h4, hs]; rfl, Int.mul_one]
    · rw [cond_true, rs_const (c := 0) (by omega) fun y h3 h4 => by rw [hconst y h3 h4, hs]; rfl, Int.mul_zero, Int.mul_zero, Int.add_zero]
theorem net_sum {b : Bd} (hb : BdOk b) : ∀ i, i < (xLines b).length → netTo b (xLines b) (yLines b) i = rs (colF b) 0 ((xLines b).getD i 0)
  | 0, _ => by rw [(x_first hb).1, rs_same]; rfl
  | i + 1, hi => by
    have asc := xLines_asc b
    obtain ⟨h1, h2⟩ := line_step asc hi
    have h0 := line_ge asc (x_first hb).1 (i := i) (by omega)
    have hy := y_first hb
    have hgap : ∀ d ∈ b.df, (d.x1 ≤ (xLines b).getD i 0 ∨ (xLines b).getD (i + 1) 0 ≤ d.x1) ∧ (d.x2 ≤ (xLines b).getD i 0 ∨ (xLines b).getD (i + 1) 0 ≤ d.x2) := fun d hd => ⟨h2 d.x1 (xLines_mem.2 (.inr ⟨d, hd, .inl rfl⟩)), h2 d.x2 (xLines_mem.2 (.inr ⟨d, hd, .inr rfl⟩))⟩
    show netTo b (xLines b) (yLines b) i + rowTo b _ _ (yLines b) ((yLines b).length - 1) = _
    rw [net_sum hb i (by omega), rs_split h0 (Int.le_of_lt h1)]
    congr 1
    symm
    rw [row_sum hb (x := (xLines b).getD i 0) ⟨Int.le_refl _, h1⟩ hgap _ (by omega), hy.2.2]
    refine rs_const (Int.le_of_lt h1) fun x h3 h4 => ?_
    unfold colF
    refine rs_congr fun y _ _ => ?_
    have : covB b x y = covB b ((xLines b).getD i 0) y := by
      rw [Bool.eq_iff_iff, covB_iff, covB_iff]
      constructor
      · rintro ⟨d, hd, h5, h6⟩
        have := hgap d hd
        exact ⟨d, hd, by omega, h6⟩
      · rintro ⟨d, hd, h5, h6⟩
        have := hgap d hd
        exact ⟨d, hd, by omega, h6⟩
    rw [this]
theorem net_covered {b : Bd} (hb : BdOk b) : netTo b (xLines b) (yLines b) ((xLines b).length - 1) = covered b := by
  obtain ⟨_, h2, h3⟩ := x_first hb
  rw [net_sum hb _ (by omega), h3]; rfl
theorem covered_bounds {b : Bd} (hb : BdOk b) {a : Int} (h0 : 0 ≤ a) (h1 : a ≤ b.ln) : 0 ≤ rs (colF b) 0 a ∧ rs (colF b) 0 a ≤ 60000000000 := by
  have h := rs_bounds (a := 0) (b := a) h0 fun x => col_bounds hb x
  have hw := hb.w1; have hl := hb.l1; have hw0 := hb.w0
  refine ⟨h.1, Int.le_trans h.2 ?_⟩
  rw [Int.sub_zero]
  calc a * b.wd ≤ 600000 * b.wd := Int.mul_le_mul_of_nonneg_right (by omega) (by omega)
    _ ≤ 600000 * 100000 := Int.mul_le_mul_of_nonneg_left hw (by omega)
    _ = 60000000000 := rfl
end Go.Proofs.Ytnjbhidncicfiaa
namespace Go.Proofs.Ytnjbhidncicfiaa

def wdt (r : Rc) : Int := r.y2 - r.y1
def LexLe (r s : Rc) : Prop := r.x1 < s.x1 ∨ (r.x1 = s.x1 ∧ r.y1 ≤ s.y1)
def Cand (b : Bd) (n : Int) (r : Rc) : Prop := 0 ≤ r.x1 ∧ r.x2 = r.x1 + n ∧ r.x2 ≤ b.ln ∧ 0 ≤ r.y1 ∧ r.y1 < r.y2 ∧ r.y2 ≤ b.wd ∧ soundB b r = true
def Best (b : Bd) (n : Int) (r : Rc) : Prop := Cand b n r ∧ ∀ s, Cand b n s → wdt s ≤ wdt r ∧ (wdt s = wdt r → LexLe r s)
theorem best_unique {b : Bd} {n : Int} {r s : Rc} (h : Best b n r) (h' : Best b n s) : r = s := by
  obtain ⟨x1, y1, x2, y2⟩ := r
  obtain ⟨u1, v1, u2, v2⟩ := s
  have h1 := h.2 _ h'.1
  have h2 := h'.2 _ h.1
  have h3 := h.1.2.1
  have h4 := h'.1.2.1
  unfold wdt LexLe at h1 h2
  simp only at h1 h2 h3 h4
  have e := h1.2 (by omega)
  have e' := h2.2 (by omega)
  have : x1 = u1 := by omega
  have : y1 = v1 := by omega
  have : x2 = u2 := by omega
  have : y2 = v2 := by omega
  subst x1 y1 x2 y2
  rfl
/-- The wider one, or the one before. -/
def pick (r c : Rc) : Rc := bif decide (wdt r < wdt c) then c else r
def zeroR : Rc := ⟨0, 0, 0, 0⟩
/-- r is the first of the widest of what P says. -/
def First (P : Rc → Prop) (r : Rc) : Prop := (r = zeroR ∧ ∀ s, ¬ P s) ∨ (P r ∧ ∀ s, P s → wdt s ≤ wdt r ∧ (wdt s = wdt r → LexLe r s))
theorem First.congr {P Q : Rc → Prop} {r : Rc} (h : First P r) (e : ∀ s, P s ↔ Q s) : First Q r := by
  rcases h with ⟨h1, h2⟩ | ⟨h1, h2⟩
  · exact .inl ⟨h1, fun s hs => h2 s ((e s).2 hs)⟩
  · exact .inr ⟨(e r).1 h1, fun s hs => h2 s ((e s).2 hs)⟩
theorem First.step {P : Rc → Prop} {r c : Rc} (h : First P r) (hc : 0 < wdt c) (hl : ∀ s, P s → LexLe s c) : First (fun s => P s ∨ s = c) (pick r c) := by
  have refl : LexLe c c := .inr ⟨rfl, Int.le_refl _⟩
  unfold pick
  rcases h with ⟨rfl, h2⟩ | ⟨h1, h2⟩
  · have : wdt zeroR < wdt c := by unfold zeroR wdt at *; simpa using hc
    rw [decide_eq_true this]
    refine .inr ⟨.inr rfl, fun s hs => ?_⟩
    rcases hs with hs | rfl
    · exact absurd hs (h2 s)
    · exact ⟨Int.le_refl _, fun _ => refl⟩
  · by_cases hlt : wdt r < wdt c
    · rw [decide_eq_true hlt]
      refine .inr ⟨.inr rfl, fun s hs => ?_⟩
      rcases hs with hs | rfl
      · have := (h2 s hs).1; exact ⟨by show wdt s ≤ wdt c; omega, fun e => by change wdt s = wdt c at e; omega⟩
      · exact ⟨Int.le_refl _, fun _ => refl⟩
    · rw [decide_eq_false hlt]
      refine .inr ⟨.inl h1, fun s hs => ?_⟩
      rcases hs with hs | rfl
      · exact h2 s hs
      · exact ⟨by show wdt s ≤ wdt r; omega, fun _ => hl r h1⟩
theorem First.wd {P : Rc → Prop} {r : Rc} (h : First P r) (hp : ∀ s, P s → 0 < wdt s) : 0 ≤ wdt r := by
  rcases h with ⟨rfl, _⟩ | ⟨h1, _⟩
  · decide
  · exact Int.le_of_lt (hp r h1)

/-! ### Every sound rectangle can be moved and stretched to one of the program's -/
theorem norm_in : ∀ {l : List Iv} {b : Int}, NormL b l → ∀ p ∈ l, b < p.1 ∧ p.1 < p.2
  | [], _, _, _, hp => by cases hp
  | q :: r, b, hn, p, hp => by
    rcases List.mem_cons.1 hp with rfl | hp
    · exact ⟨hn.1, hn.2.1⟩
    · have := norm_in hn.2.2 p hp; have := hn.1; have := hn.2.1; omega
theorem norm_sides : ∀ {l : List Iv} {b : Int}, NormL b l → ∀ p ∈ l, ¬ memL (p.1 - 1) l ∧ ¬ memL p.2 l
  | [], _, _, p, hp => by cases hp
  | q :: r, b, hn, p, hp => by
    obtain ⟨h1, h2, h3⟩ := hn
    have low : ∀ x, memL x r → q.2 < x := fun x hx => norm_above h3 hx
    rcases List.mem_cons.1 hp with rfl | hp
    · refine ⟨fun h => ?_, fun h => ?_⟩
      · rcases memL_cons.1 h with h | h
        · omega
        · have := low _ h; omega
      · rcases memL_cons.1 h with h | h
        · omega
        · have := low _ h; omega
    · have ih := norm_sides h3 p hp
      have h4 := norm_in h3 p hp
      refine ⟨fun h => ?_, fun h => ?_⟩
      · rcases memL_cons.1 h with h | h
        · omega
        · exact ih.1 h
      · rcases memL_cons.1 h with h | h
        · omega
        · exact ih.2 h
theorem norm_one : ∀ {l : List Iv} {b a c : Int}, NormL b l → a < c → (∀ y, a ≤ y → y < c → memL y l) → ∃ p ∈ l, p.1 ≤ a ∧ c ≤ p.2
  | [], _, a, _, _, hac, h => absurd (h a (Int.le_refl _) hac) (memL_nil _)
  | q :: r, b, a, c, hn, hac, h => by
    obtain ⟨h1, h2, h3⟩ := hn
    rcases memL_cons.1 (h a (Int.le_refl _) hac) with hq | hr
    · by_cases hc : c ≤ q.2
      · exact ⟨q, List.mem_cons_self .., hq.1, hc⟩
      · rcases memL_cons.1 (h q.2 (by omega) (by omega)) with h4 | h4
        · omega
        · have := norm_above h3 h4; omega
    · have ha := norm_above h3 hr
      obtain ⟨p, hp, h4⟩ := norm_one h3 hac fun y hy1 hy2 => by
        rcases memL_cons.1 (h y hy1 hy2) with h5 | h5
        · omega
        · exact h5
      exact ⟨p, List.mem_cons_of_mem _ hp, h4⟩
def Begin (b : Bd) (n x : Int) : Prop := x = 0 ∨ ∃ d ∈ b.df, d.x2 ≤ b.ln - n ∧ x = d.x2
theorem open_sound {b : Bd} (hb : BdOk b) {x n : Int} {l : List Iv} (h : IsOpen (acrossL b x (x + n)) b.wd l) {p : Iv} (hp : p ∈ l) : soundB b ⟨x, p.1, x + n, p.2⟩ = true := by
  have he := open_each h p hp
  rw [soundB_iff]
  rintro d hd ⟨h1, h2⟩
  simp only at h1 h2
  have h3 := (hb.each d hd).y12
  have hy : ∃ y, p.1 ≤ y ∧ y < p.2 ∧ d.y1 ≤ y ∧ y < d.y2 := by
    by_cases h4 : p.1 ≤ d.y1
    · exact ⟨d.y1, h4, by omega, Int.le_refl _, by omega⟩
    · exact ⟨p.1, Int.le_refl _, by omega, by omega, by omega⟩
  obtain ⟨y, h4, h5, h6, h7⟩ := hy
  exact ((h.2 y).1 ⟨p, hp, h4, h5⟩).2.2 (d.y1, d.y2) (acrossL_mem.2 ⟨d, hd, h1, rfl⟩) ⟨h6, h7⟩
theorem open_ends {b : Bd} {x n : Int} {l : List Iv} (h : IsOpen (acrossL b x (x + n)) b.wd l) {p : Iv} (hp : p ∈ l) : p.1 ∈ yLines b ∧ p.2 ∈ yLines b := by
  obtain ⟨s1, s2⟩ := norm_sides h.1 p hp
  obtain ⟨e1, e2, e3⟩ := open_each h p hp
  have f1 := ((h.2 p.1).1 ⟨p, hp, Int.le_refl _, e2⟩).2.2
  have f2 := ((h.2 (p.2 - 1)).1 ⟨p, hp, by omega, by omega⟩).2.2
  constructor
  · by_cases h0 : p.1 = 0
    · exact yLines_mem.2 (.inl (.inr h0))
    · have : ¬ freeAt (acrossL b x (x + n)) (p.1 - 1) := fun hf => s1 ((h.2 _).2 ⟨by omega, by omega, hf⟩)
      have : ∃ t ∈ acrossL b x (x + n), t.1 ≤ p.1 - 1 ∧ p.1 - 1 < t.2 := by
        apply Decidable.byContradiction
        intro hn
        exact this fun t ht hh => hn ⟨t, ht, hh⟩
      obtain ⟨t, ht, hh⟩ := this
      have := f1 t ht
      obtain ⟨d, hd, _, rfl⟩ := acrossL_mem.1 ht
      simp only at hh this
      exact yLines_mem.2 (.inr ⟨d, hd, .inr (by omega)⟩)
  · by_cases h0 : p.2 = b.wd
    · exact yLines_mem.2 (.inl (.inl h0))
    · have : ¬ freeAt (acrossL b x (x + n)) p.2 := fun hf => s2 ((h.2 _).2 ⟨by omega, by omega, hf⟩)
      have : ∃ t ∈ acrossL b x (x + n), t.1 ≤ p.2 ∧ p.2 < t.2 := by
        apply Decidable.byContradiction
        intro hn
        exact this fun t ht hh => hn ⟨t, ht, hh⟩
      obtain ⟨t, ht, hh⟩ := this
      have := f2 t ht
      obtain ⟨d, hd, _, rfl⟩ := acrossL_mem.1 ht
      simp only at hh this
      exact yLines_mem.2 (.inr ⟨d, hd, .inl (by omega)⟩)
theorem left_most {x : Int} {q : Rc → Bool} (hx : 0 ≤ x) : ∀ (ds : List Rc), ∃ z, 0 ≤ z ∧ z ≤ x ∧ (z = 0 ∨ ∃ d ∈ ds, q d = true ∧ z = d.x2) ∧ ∀ d ∈ ds, q d = true → d.x2 ≤ x → d.x2 ≤ z
  | [] => ⟨0, Int.le_refl _, hx, .inl rfl, fun d hd => by cases hd⟩
  | d :: ds => by
    obtain ⟨z, h0, h1, h2, h3⟩ := left_most (q := q) hx ds
    have keep : (z = 0 ∨ ∃ e ∈ d :: ds, q e = true ∧ z = e.x2) := by
      rcases h2 with h2 | ⟨e, he, h⟩
      · exact .inl h2
      · exact .inr ⟨e, List.mem_cons_of_mem _ he, h⟩
    by_cases hd : q d = true ∧ d.x2 ≤ x ∧ z < d.x2
    · refine ⟨d.x2, by omega, hd.2.1, .inr ⟨d, List.mem_cons_self .., hd.1, rfl⟩, fun e he hq hl => ?_⟩
      rcases List.mem_cons.1 he with rfl | he
      · exact Int.le_refl _
      · have := h3 e he hq hl; omega
    · refine ⟨z, h0, h1, keep, fun e he hq hl => ?_⟩
      rcases List.mem_cons.1 he with rfl | he
      · exact Decidable.byContradiction fun hh => hd ⟨hq, hl, by omega⟩
      · exact h3 e he hq hl
theorem push {b : Bd} {n : Int} {s : Rc} (h : Cand b n s) : ∃ x, Begin b n x ∧ 0 ≤ x ∧ x ≤ s.x1 ∧ ∀ l, IsOpen (acrossL b x (x + n)) b.wd l → ∃ p ∈ l, p.1 ≤ s.y1 ∧ s.y2 ≤ p.2 := by
  obtain ⟨h0, h1, h2, h3, h4, h5, h6⟩ := h
  obtain ⟨z, z0, z1, z2, z3⟩ := left_most (x := s.x1) (q := fun d => decide (d.y1 < s.y2) && decide (s.y1 < d.y2)) h0 b.df
  have hs := soundB_iff.1 h6
  refine ⟨z, ?_, z0, z1, fun l hl => norm_one hl.1 h4 fun y hy1 hy2 => ?_⟩
  · rcases z2 with z2 | ⟨d, hd, _, z2⟩
    · exact .inl z2
    · exact .inr ⟨d, hd, by omega, z2⟩
  · refine (hl.2 y).2 ⟨by omega, by omega, fun t ht hh => ?_⟩
    obtain ⟨d, hd, h7, rfl⟩ := acrossL_mem.1 ht
    simp only at hh
    have h8 := hs d hd
    have h9 := z3 d hd (by simp only [Bool.and_eq_true, decide_eq_true_eq]; omega)
    by_cases h10 : d.x2 ≤ s.x1
    · have := h9 h10; omega
    · exact h8 ⟨⟨by omega, by omega⟩, by omega, by omega⟩
theorem first_best {b : Bd} {n : Int} {P : Rc → Prop} {r : Rc} (h : First P r) (hP : ∀ s, P s → Cand b n s) (hpush : ∀ s, Cand b n s → ∃ t, P t ∧ t.x1 ≤ s.x1 ∧ t.y1 ≤ s.y1 ∧ s.y2 ≤ t.y2) : (r = zeroR ∧ ∀ s, ¬ Cand b n s) ∨ Best b n r := by
  rcases h with ⟨h1, h2⟩ | ⟨h1, h2⟩
  · exact .inl ⟨h1, fun s hs => by obtain ⟨t, ht, _⟩ := hpush s hs; exact h2 t ht⟩
  · refine .inr ⟨hP r h1, fun s hs => ?_⟩
    obtain ⟨t, ht, a1, a2, a3⟩ := hpush s hs
    have h3 := h2 t ht
    have h4 := (hP t ht)
    unfold wdt LexLe at *
    refine ⟨by omega, fun e => ?_⟩
    have := h3.2 (by omega)
    omega

/-! ### The program's -/
def openL (b : Bd) (a e : Int) : List Iv := opn 0 (((acrossL b a e).mergeSort fun p q => decide (p.1 ≤ q.1)) ++ [(b.wd, b.wd)])
theorem openL_is {b : Bd} (hb : BdOk b) (a e : Int) : IsOpen (acrossL b a e) b.wd (openL b a e) := strip_open hb a e
def rectAt (x n : Int) (o : Iv) : Rc := ⟨x, o.1, x + n, o.2⟩
/-- Behind the first j openings at x. -/
def oTo (r : Rc) (x n : Int) (l : List Iv) : Nat → Rc
  | 0 => r
  | j + 1 => pick (oTo r x n l j) (rectAt x n (l.getD j (0, 0)))
def bTo (b : Bd) (n : Int) (bs : List Int) : Nat → Rc
  | 0 => zeroR
  | i + 1 => oTo (bTo b n bs i) (bs.getD i 0) n (openL b (bs.getD i 0) (bs.getD i 0 + n)) (openL b (bs.getD i 0) (bs.getD i 0 + n)).length
def PP (b : Bd) (n : Int) (bs : List Int) (i : Nat) (s : Rc) : Prop := ∃ k, k < i ∧ ∃ o ∈ openL b (bs.getD k 0) (bs.getD k 0 + n), s = rectAt (bs.getD k 0) n o
theorem norm_asc : ∀ {l : List Iv} {b : Int}, NormL b l → ∀ {i j : Nat} (hi : i < l.length) (hj : j < l.length), i < j → (l[i]).1 ≤ (l[j]).1
  | [], _, _, i, j, hi, _, _ => by simp at hi
  | p :: r, b, hn, 0, j + 1, _, hj, _ => by
    have hj' : j < r.length := by simpa using hj
    have := norm_in hn.2.2 r[j] (List.getElem_mem hj')
    have := hn.2.1
    show p.1 ≤ (r[j]).1
    omega
  | p :: r, b, hn, i + 1, j + 1, hi, hj, h => norm_asc (l := r) hn.2.2 (by simpa using hi) (by simpa using hj) (by omega)
  | p :: r, b, hn, 0, 0, _, _, h => by omega
  | p :: r, b, hn, i + 1, 0, _, _, h => by omega
theorem First.held {P : Rc → Prop} {r : Rc} (h : First P r) {s : Rc} (hs : P s) : wdt s ≤ wdt r := by
  rcases h with ⟨_, h2⟩ | ⟨_, h2⟩
  · exact absurd hs (h2 s)
  · exact (h2 s hs).1
theorem oTo_same {x n : Int} {r : Rc} {l : List Iv} (h : ∀ o ∈ l, wdt (rectAt x n o) ≤ wdt r) : ∀ j, j ≤ l.length → oTo r x n l j = r
  | 0, _ => rfl
  | j + 1, hj => by
    show pick (oTo r x n l j) (rectAt x n (l.getD j (0, 0))) = r
    rw [oTo_same h j (by omega), getD_at (show j < l.length by omega)]
    have := h _ (List.getElem_mem (show j < l.length by omega))
    unfold pick
    rw [decide_eq_false (by omega)]; rfl
theorem oTo_first {x n : Int} {P : Rc → Prop} {r : Rc} {l : List Iv} (hl : NormL (-1) l) (h : First P r) (hP : ∀ s, P s → s.x1 < x) : ∀ j, j ≤ l.length →
    First (fun s => P s ∨ ∃ k, ∃ hk : k < l.length, k < j ∧ s = rectAt x n l[k]) (oTo r x n l j)
  | 0, _ => h.congr fun s => ⟨.inl, fun h => by rcases h with h | ⟨k, _, h1, _⟩; exact h; omega⟩
  | j + 1, hj => by
    have ih := oTo_first (n := n) hl h hP j (by omega)
    have hjl : j < l.length := by omega
    have hoj := norm_in hl _ (List.getElem_mem hjl)
    show First _ (pick (oTo r x n l j) (rectAt x n (l.getD j (0, 0))))
    rw [getD_at hjl]
    refine (ih.step (c := rectAt x n l[j]) (by unfold wdt rectAt; simp only; omega) fun s hs => ?_).congr fun s => ?_
    · rcases hs with hs | ⟨k, hk, h1, rfl⟩
      · exact .inl (hP s hs)
      · exact .inr ⟨rfl, norm_asc hl hk hjl h1⟩
    · constructor
      · rintro ((hs | ⟨k, hk, h1, rfl⟩) | rfl)
        · exact .inl hs
        · exact .inr ⟨k, hk, by omega, rfl⟩
        · exact .inr ⟨j, hjl, by omega, rfl⟩
      · rintro (hs | ⟨k, hk, h1, rfl⟩)
        · exact .inl (.inl hs)
        · by_cases e : k = j
          · subst e; exact .inr rfl
          · exact .inl (.inr ⟨k, hk, by omega, rfl⟩)
theorem bTo_first {b : Bd} (hb : BdOk b) {n : Int} {bs : List Int} (hs : bs.Pairwise (fun x y => x ≤ y)) : ∀ i, i ≤ bs.length → First (PP b n bs i) (bTo b n bs i)
  | 0, _ => .inl ⟨rfl, fun s ⟨k, h, _⟩ => by omega⟩
  | i + 1, hi => by
    have ih := bTo_first hb (n := n) hs i (by omega)
    have hil : i < bs.length := by omega
    show First _ (oTo (bTo b n bs i) (bs.getD i 0) n (openL b (bs.getD i 0) (bs.getD i 0 + n)) (openL b (bs.getD i 0) (bs.getD i 0 + n)).length)
    obtain ⟨x, hx⟩ : ∃ x, bs.getD i 0 = x := ⟨_, rfl⟩
    have hle : ∀ k, k < i → bs.getD k 0 ≤ x := fun k hk => by
      rw [← hx, getD_at (show k < bs.length by omega), getD_at hil]
      exact List.pairwise_iff_getElem.1 hs k i (by omega) hil hk
    have hsplit : ∀ s, PP b n bs (i + 1) s ↔ PP b n bs i s ∨ ∃ o ∈ openL b x (x + n), s = rectAt x n o := fun s => by
      constructor
      · rintro ⟨k, hk, o, ho, rfl⟩
        by_cases e : k = i
        · subst e; rw [hx] at ho ⊢; exact .inr ⟨o, ho, rfl⟩
        · exact .inl ⟨k, by omega, o, ho, rfl⟩
      · rintro (⟨k, hk, o, ho, rfl⟩ | ⟨o, ho, rfl⟩)
        · exact ⟨k, by omega, o, ho, rfl⟩
        · exact ⟨i, by omega, o, by rw [hx]; exact ho, by rw [hx]⟩
    rw [hx]
    by_cases hex : ∃ k, k < i ∧ bs.getD k 0 = x
    · obtain ⟨k, hk, e⟩ := hex
      have hin : ∀ o ∈ openL b x (x + n), PP b n bs i (rectAt x n o) := fun o ho => ⟨k, hk, o, by rw [e]; exact ho, by rw [e]⟩
      rw [oTo_same (fun o ho => ih.held (hin o ho)) _ (Nat.le_refl _)]
      refine ih.congr fun s => ?_
      rw [hsplit s]
      exact ⟨.inl, fun h => by rcases h with h | ⟨o, ho, rfl⟩; exact h; exact hin o ho⟩
    · refine (oTo_first (openL_is hb x (x + n)).1 ih (fun s hs => ?_) _ (Nat.le_refl _)).congr fun s => ?_
      · obtain ⟨k, hk, o, ho, rfl⟩ := hs
        have h1 := hle k hk
        have h2 : bs.getD k 0 ≠ x := fun e => hex ⟨k, hk, e⟩
        show bs.getD k 0 < x
        omega
      · rw [hsplit s]
        constructor
        · rintro (h | ⟨k, hk, _, rfl⟩)
          · exact .inl h
          · exact .inr ⟨_, List.getElem_mem hk, rfl⟩
        · rintro (h | ⟨o, ho, rfl⟩)
          · exact .inl h
          · obtain ⟨k, hk, rfl⟩ := List.mem_iff_getElem.1 ho
            exact .inr ⟨k, hk, hk, rfl⟩
def beginsL (b : Bd) (n : Int) : List Int := 0 :: (b.df.filter fun d => decide (d.x2 ≤ b.ln - n)).map fun d => d.x2
theorem beginsL_mem {b : Bd} {n x : Int} : x ∈ beginsL b n ↔ Begin b n x := by
  unfold beginsL Begin
  rw [List.mem_cons, List.mem_map]
  constructor
  · rintro (h | ⟨d, hd, rfl⟩)
    · exact .inl h
    · rw [List.mem_filter] at hd
      exact .inr ⟨d, hd.1, by simpa using hd.2, rfl⟩
  · rintro (h | ⟨d, hd, h, rfl⟩)
    · exact .inl h
    · exact .inr ⟨d, List.mem_filter.2 ⟨hd, by simpa using h⟩, rfl⟩
theorem begin_in {b : Bd} (hb : BdOk b) {n x : Int} (hn : n ≤ b.ln) (h : Begin b n x) : 0 ≤ x ∧ x + n ≤ b.ln := by
  rcases h with rfl | ⟨d, hd, h, rfl⟩
  · omega
  · have g := hb.each d hd
    have := g.x0; have := g.x12
    omega
theorem prog_best {b : Bd} (hb : BdOk b) {n : Int} (hn2 : n ≤ b.ln) {bs : List Int} (hp : bs.Perm (beginsL b n)) (hs : bs.Pairwise (fun x y => x ≤ y)) : (bTo b n bs bs.length = zeroR ∧ ∀ s, ¬ Cand b n s) ∨ Best b n (bTo b n bs bs.length) := by
  have hm : ∀ x, x ∈ bs ↔ Begin b n x := fun x => (hp.mem_iff).trans beginsL_mem
  refine first_best (bTo_first hb hs bs.length (Nat.le_refl _)) (fun s hs => ?_) (fun s hs => ?_)
  · obtain ⟨k, hk, o, ho, rfl⟩ := hs
    have hmem : bs.getD k 0 ∈ bs := by rw [getD_at hk]; exact List.getElem_mem hk
    have h1 := begin_in hb hn2 ((hm _).1 hmem)
    have h2 := open_each (openL_is hb _ _) o ho
    exact ⟨h1.1, rfl, h1.2, h2.1, h2.2.1, h2.2.2, open_sound hb (openL_is hb _ _) ho⟩
  · obtain ⟨x, hx, h0, h1, h2⟩ := push hs
    obtain ⟨p, hp, h3, h4⟩ := h2 _ (openL_is hb x (x + n))
    obtain ⟨k, hk, e⟩ := List.mem_iff_getElem.1 ((hm x).2 hx)
    have e : bs.getD k 0 = x := by rw [getD_at hk]; exact e
    exact ⟨rectAt x n p, ⟨k, hk, p, by rw [e]; exact hp, by rw [e]⟩, h1, h3, h4⟩

/-! ### The reference's -/
def pickS (b : Bd) (r c : Rc) : Rc := bif soundB b c then pick r c else r
def jTo (b : Bd) (n x : Int) (ys : List Int) (k : Nat) (r : Rc) : Nat → Rc
  | 0 => r
  | m + 1 => pickS b (jTo b n x ys k r m) ⟨x, ys.getD k 0, x + n, ys.getD (k + 1 + m) 0⟩
def kTo (b : Bd) (n x : Int) (ys : List Int) (r : Rc) : Nat → Rc
  | 0 => r
  | k + 1 => jTo b n x ys k (kTo b n x ys r k) (ys.length - (k + 1))
def iTo (b : Bd) (n : Int) (xs ys : List Int) : Nat → Rc
  | 0 => zeroR
  | i + 1 => bif decide (b.ln < xs.getD i 0 + n) then iTo b n xs ys i else kTo b n (xs.getD i 0) ys (iTo b n xs ys i) ys.length
def JP (b : Bd) (n x : Int) (ys : List Int) (k m : Nat) (s : Rc) : Prop := ∃ q, q < m ∧ s = ⟨x, ys.getD k 0, x + n, ys.getD (k + 1 + q) 0⟩ ∧ soundB b s = true
def KP (b : Bd) (n x : Int) (ys : List Int) (k : Nat) (s : Rc) : Prop := ∃ q, q < k ∧ JP b n x ys q (ys.length - (q + 1)) s
def IP (b : Bd) (n : Int) (xs ys : List Int) (i : Nat) (s : Rc) : Prop := ∃ q, q < i ∧ xs.getD q 0 + n ≤ b.ln ∧ KP b n (xs.getD q 0) ys ys.length s
theorem asc_at {l : List Int} (h : Asc l) {i j : Nat} (hij : i < j) (hj : j < l.length) : l.getD i 0 < l.getD j 0 := by
  rw [getD_at (show i < l.length by omega), getD_at hj]; exact asc_lt h hij hj
theorem jTo_first {b : Bd} {n x : Int} {ys : List Int} (asc : Asc ys) {k : Nat} {P : Rc → Prop} {r : Rc} (h : First P r) (hP : ∀ s, P s → s.x1 < x ∨ (s.x1 = x ∧ s.y1 ≤ ys.getD k 0)) : ∀ m, k + 1 + m ≤ ys.length →
    First (fun s => P s ∨ JP b n x ys k m s) (jTo b n x ys k r m)
  | 0, _ => h.congr fun s => ⟨.inl, fun h => by rcases h with h | ⟨q, h1, _⟩; exact h; omega⟩
  | m + 1, hm => by
    have ih := jTo_first (b := b) (n := n) asc h hP m (by omega)
    show First _ (pickS b (jTo b n x ys k r m) ⟨x, ys.getD k 0, x + n, ys.getD (k + 1 + m) 0⟩)
    have hw := asc_at asc (show k < k + 1 + m by omega) (by omega)
    unfold pickS
    cases hv : soundB b ⟨x, ys.getD k 0, x + n, ys.getD (k + 1 + m) 0⟩
    · rw [cond_false]
      refine ih.congr fun s => ?_
      constructor
      · rintro (hs | ⟨q, hq, h1, h2⟩)
        · exact .inl hs
        · exact .inr ⟨q, by omega, h1, h2⟩
      · rintro (hs | ⟨q, hq, h1, h2⟩)
        · exact .inl hs
        · by_cases e : q = m
          · subst e; rw [h1, hv] at h2; cases h2
          · exact .inr ⟨q, by omega, h1, h2⟩
    · rw [cond_true]
      refine (ih.step (c := ⟨x, ys.getD k 0, x + n, ys.getD (k + 1 + m) 0⟩) (by unfold wdt; simp only; omega) fun s hs => ?_).congr fun s => ?_
      · rcases hs with hs | ⟨q, hq, rfl, _⟩
        · exact hP s hs
        · exact .inr ⟨rfl, Int.le_refl _⟩
      · constructor
        · rintro ((hs | ⟨q, hq, h1, h2⟩) | rfl)
          · exact .inl hs
          · exact .inr ⟨q, by omega, h1, h2⟩
          · exact .inr ⟨m, by omega, rfl, hv⟩
        · rintro (hs | ⟨q, hq, h1, h2⟩)
          · exact .inl (.inl hs)
          · by_cases e : q = m
            · subst e; exact .inr h1
            · exact .inl (.inr ⟨q, by omega, h1, h2⟩)
theorem kTo_first {b : Bd} {n x : Int} {ys : List Int} (asc : Asc ys) {P : Rc → Prop} {r : Rc} (h : First P r) (hP : ∀ s, P s → s.x1 < x) : ∀ k, k ≤ ys.length →
    First (fun s => P s ∨ KP b n x ys k s) (kTo b n x ys r k)
  | 0, _ => h.congr fun s => ⟨.inl, fun h => by rcases h with h | ⟨q, h1, _⟩; exact h; omega⟩
  | k + 1, hk => by
    have ih := kTo_first (b := b) (n := n) asc h hP k (by omega)
    show First _ (jTo b n x ys k (kTo b n x ys r k) (ys.length - (k + 1)))
    refine (jTo_first (b := b) (n := n) (x := x) asc (k := k) ih (fun s hs => ?_) _ (by omega)).congr fun s => ?_
    · rcases hs with hs | ⟨q, hq, t, ht, rfl, _⟩
      · exact .inl (hP s hs)
      · exact .inr ⟨rfl, Int.le_of_lt (asc_at asc hq (by omega))⟩
    · constructor
      · rintro ((hs | ⟨q, hq, h1⟩) | hs)
        · exact .inl hs
        · exact .inr ⟨q, by omega, h1⟩
        · exact .inr ⟨k, by omega, hs⟩
      · rintro (hs | ⟨q, hq, h1⟩)
        · exact .inl (.inl hs)
        · by_cases e : q = k
          · subst e; exact .inr h1
          · exact .inl (.inr ⟨q, by omega, h1⟩)
theorem iTo_first {b : Bd} {n : Int} {xs ys : List Int} (ax : Asc xs) (ay : Asc ys) : ∀ i, i ≤ xs.length → First (IP b n xs ys i) (iTo b n xs ys i)
  | 0, _ => .inl ⟨rfl, fun s ⟨k, h, _⟩ => by omega⟩
  | i + 1, hi => by
    have ih := iTo_first (b := b) (n := n) ax ay i (by omega)
    show First _ (bif decide (b.ln < xs.getD i 0 + n) then iTo b n xs ys i else kTo b n (xs.getD i 0) ys (iTo b n xs ys i) ys.length)
    by_cases hv : b.ln < xs.getD i 0 + n
    · rw [decide_eq_true hv, cond_true]
      refine ih.congr fun s => ?_
      constructor
      · rintro ⟨q, hq, h1, h2⟩; exact ⟨q, by omega, h1, h2⟩
      · rintro ⟨q, hq, h1, h2⟩
        by_cases e : q = i
        · subst e; omega
        · exact ⟨q, by omega, h1, h2⟩
    · rw [decide_eq_false hv, cond_false]
      refine (kTo_first (b := b) (n := n) (x := xs.getD i 0) ay ih (fun s hs => ?_) _ (Nat.le_refl _)).congr fun s => ?_
      · obtain ⟨q, hq, _, k, hk, t, ht, rfl, _⟩ := hs
        exact asc_at ax hq (by omega)
      · constructor
        · rintro (⟨q, hq, h1, h2⟩ | hs)
          · exact ⟨q, by omega, h1, h2⟩
          · exact ⟨i, by omega, by omega, hs⟩
        · rintro ⟨q, hq, h1, h2⟩
          by_cases e : q = i
          · subst e; exact .inr h2
          · exact .inl ⟨q, by omega, h1, h2⟩
theorem ref_best {b : Bd} (hb : BdOk b) {n : Int} (hn2 : n ≤ b.ln) : (iTo b n (xLines b) (yLines b) (xLines b).length = zeroR ∧ ∀ s, ¬ Cand b n s) ∨ Best b n (iTo b n (xLines b) (yLines b) (xLines b).length) := by
  have ax := xLines_asc b
  have ay := yLines_asc b
  refine first_best (iTo_first ax ay _ (Nat.le_refl _)) (fun s hs => ?_) (fun s hs => ?_)
  · obtain ⟨q, hq, h1, k, hk, t, ht, rfl, h2⟩ := hs
    refine ⟨line_ge ax (x_first hb).1 hq, rfl, h1, line_ge ay (y_first hb).1 hk, asc_at ay (by omega) (by omega), line_le ay (y_first hb).2.2 (by omega), h2⟩
  · obtain ⟨x, hx, h0, h1, h2⟩ := push hs
    have ho := openL_is hb x (x + n)
    obtain ⟨p, hp, h3, h4⟩ := h2 _ ho
    have hxm : x ∈ xLines b := by
      rcases hx with rfl | ⟨d, hd, _, rfl⟩
      · exact xLines_mem.2 (.inl (.inr rfl))
      · exact xLines_mem.2 (.inr ⟨d, hd, .inr rfl⟩)
    have hin := begin_in hb hn2 hx
    obtain ⟨i, hi, ei⟩ := List.mem_iff_getElem.1 hxm
    have hpe := open_ends ho hp
    obtain ⟨k, hk, ek⟩ := List.mem_iff_getElem.1 hpe.1
    obtain ⟨j, hj, ej⟩ := List.mem_iff_getElem.1 hpe.2
    have hpp := open_each ho p hp
    have hkj : k < j := by
      rcases Nat.lt_or_ge k j with h | h
      · exact h
      · by_cases e : j = k
        · subst e; omega
        · have := asc_lt ay (show j < k by omega) hk; omega
    have ei : (xLines b).getD i 0 = x := by rw [getD_at hi]; exact ei
    have ek : (yLines b).getD k 0 = p.1 := by rw [getD_at hk]; exact ek
    have ej : (yLines b).getD j 0 = p.2 := by rw [getD_at hj]; exact ej
    refine ⟨rectAt x n p, ⟨i, hi, by rw [ei]; exact hin.2, k, hk, j - (k + 1), by omega, ?_, open_sound hb ho hp⟩, h1, h3, h4⟩
    rw [ei, ek, show k + 1 + (j - (k + 1)) = j by omega, ej]; rfl
theorem widest_same {b : Bd} (hb : BdOk b) {n : Int} (hn2 : n ≤ b.ln) {bs : List Int} (hp : bs.Perm (beginsL b n)) (hs : bs.Pairwise (fun x y => x ≤ y)) : bTo b n bs bs.length = iTo b n (xLines b) (yLines b) (xLines b).length := by
  rcases prog_best hb hn2 hp hs with ⟨h1, h2⟩ | h1
  · rcases ref_best hb hn2 with ⟨h3, _⟩ | h3
    · rw [h1, h3]
    · exact absurd h3.1 (h2 _)
  · rcases ref_best hb hn2 with ⟨_, h3⟩ | h3
    · exact absurd h1.1 (h3 _)
    · exact best_unique h1 h3
end Go.Proofs.Ytnjbhidncicfiaa
namespace Go.Proofs.Ytnjbhidncicfiaa

def YIn (W : Int) (r : Rc) : Prop := 0 ≤ r.y1 ∧ r.y1 ≤ r.y2 ∧ r.y2 ≤ W
theorem zero_yin {W : Int} (h : 0 ≤ W) : YIn W zeroR := ⟨Int.le_refl _, Int.le_refl _, h⟩
theorem pick_yin {W : Int} {r c : Rc} (h : YIn W r) (hc : YIn W c) : YIn W (pick r c) := by
  unfold pick
  cases decide (wdt r < wdt c)
  · exact h
  · exact hc
theorem oTo_yin {W : Int} {r : Rc} {x n : Int} {l : List Iv} (h : YIn W r) (hl : ∀ p ∈ l, 0 ≤ p.1 ∧ p.1 < p.2 ∧ p.2 ≤ W) : ∀ j, j ≤ l.length → YIn W (oTo r x n l j)
  | 0, _ => h
  | j + 1, hj => by
    have hjl : j < l.length := by omega
    have e : l.getD j (0, 0) = l[j] := by rw [List.getD_eq_getElem?_getD, List.getElem?_eq_getElem hjl]; rfl
    have h2 := hl _ (List.getElem_mem hjl)
    refine pick_yin (oTo_yin h hl j (by omega)) ?_
    rw [e]
    exact ⟨h2.1, by show l[j].1 ≤ l[j].2; omega, h2.2.2⟩
theorem bTo_yin {b : Bd} (hb : BdOk b) {n : Int} {bs : List Int} : ∀ i, YIn b.wd (bTo b n bs i)
  | 0 => zero_yin (by have := hb.w0; omega)
  | i + 1 => oTo_yin (bTo_yin hb i) (open_each (openL_is hb _ _)) _ (Nat.le_refl _)
theorem oTo_step {r : Rc} {x n : Int} {l : List Iv} {j : Nat} (h : j < l.length) : oTo r x n l (j + 1) = pick (oTo r x n l j) ⟨x, l[j].1, x + n, l[j].2⟩ := by
  have e : l.getD j (0, 0) = l[j] := by rw [List.getD_eq_getElem?_getD, List.getElem?_eq_getElem h]; rfl
  show pick (oTo r x n l j) (rectAt x n (l.getD j (0, 0))) = _
  rw [e]; rfl
theorem bTo_step {b : Bd} {n : Int} {bs : List Int} {i : Nat} (h : i < bs.length) : bTo b n bs (i + 1) = oTo (bTo b n bs i) bs[i] n (openL b bs[i] (bs[i] + n)) (openL b bs[i] (bs[i] + n)).length := by
  have e : bs.getD i 0 = bs[i] := getD_at h
  show oTo (bTo b n bs i) (bs.getD i 0) n (openL b (bs.getD i 0) (bs.getD i 0 + n)) (openL b (bs.getD i 0) (bs.getD i 0 + n)).length = _
  rw [e]
theorem pick_lt {r c : Rc} (h : wdt r < wdt c) : pick r c = c := by unfold pick; rw [decide_eq_true h]; rfl
theorem pick_ge {r c : Rc} (h : ¬ wdt r < wdt c) : pick r c = r := by unfold pick; rw [decide_eq_false h]; rfl
theorem pickS_yin {b : Bd} {W : Int} {r c : Rc} (h : YIn W r) (hc : YIn W c) : YIn W (pickS b r c) := by
  unfold pickS
  cases soundB b c
  · exact h
  · exact pick_yin h hc
theorem jTo_yin {b : Bd} {n x W : Int} {ys : List Int} {k : Nat} {r : Rc} (h : YIn W r) (hy : ∀ i, i < ys.length → 0 ≤ ys.getD i 0 ∧ ys.getD i 0 ≤ W) (asc : Asc ys) : ∀ m, k + 1 + m ≤ ys.length → YIn W (jTo b n x ys k r m)
  | 0, _ => h
  | m + 1, hm => by
    refine pickS_yin (jTo_yin h hy asc m (by omega)) ⟨(hy k (by omega)).1, ?_, (hy (k + 1 + m) (by omega)).2⟩
    have := asc_at asc (show k < k + 1 + m by omega) (show k + 1 + m < ys.length by omega)
    show ys.getD k 0 ≤ ys.getD (k + 1 + m) 0
    omega
theorem kTo_yin {b : Bd} {n x W : Int} {ys : List Int} {r : Rc} (h : YIn W r) (hy : ∀ i, i < ys.length → 0 ≤ ys.getD i 0 ∧ ys.getD i 0 ≤ W) (asc : Asc ys) : ∀ k, k ≤ ys.length → YIn W (kTo b n x ys r k)
  | 0, _ => h
  | k + 1, hk => jTo_yin (kTo_yin h hy asc k (by omega)) hy asc _ (by omega)
theorem iTo_yin {b : Bd} {n W : Int} {xs ys : List Int} (h0 : 0 ≤ W) (hy : ∀ i, i < ys.length → 0 ≤ ys.getD i 0 ∧ ys.getD i 0 ≤ W) (asc : Asc ys) : ∀ i, YIn W (iTo b n xs ys i)
  | 0 => zero_yin h0
  | i + 1 => by
    show YIn W (bif decide (b.ln < xs.getD i 0 + n) then iTo b n xs ys i else kTo b n (xs.getD i 0) ys (iTo b n xs ys i) ys.length)
    cases decide (b.ln < xs.getD i 0 + n)
    · exact kTo_yin (iTo_yin h0 hy asc i) hy asc _ (Nat.le_refl _)
    · exact iTo_yin h0 hy asc i
theorem yl_in {b : Bd} (hb : BdOk b) : ∀ i, i < (yLines b).length → 0 ≤ (yLines b).getD i 0 ∧ (yLines b).getD i 0 ≤ b.wd := fun _ hi => ⟨line_ge (yLines_asc b) (y_first hb).1 hi, line_le (yLines_asc b) (y_first hb).2.2 hi⟩
/-- The begins so far. -/
def begT (m : Int) (ds : List Rc) : List Int := 0 :: (ds.filter fun d => decide (d.x2 ≤ m)).map fun d => d.x2
theorem begT_len {m : Int} {ds : List Rc} : (begT m ds).length ≤ ds.length + 1 := by
  unfold begT; simp only [List.length_cons, List.length_map]
  have := List.length_filter_le (fun d : Rc => decide (d.x2 ≤ m)) ds
  omega
theorem begT_in {m : Int} {ds : List Rc} {k : Nat} (h : k < ds.length) (h1 : ds[k].x2 ≤ m) : begT m (ds.take (k + 1)) = begT m (ds.take k) ++ [ds[k].x2] := by
  unfold begT; rw [List.take_succ_eq_append_getElem h, List.filter_append]; simp [h1]
theorem begT_out {m : Int} {ds : List Rc} {k : Nat} (h : k < ds.length) (h1 : ¬ ds[k].x2 ≤ m) : begT m (ds.take (k + 1)) = begT m (ds.take k) := by
  unfold begT; rw [List.take_succ_eq_append_getElem h, List.filter_append]; simp [h1]
def widR (b : Bd) (n : Int) : Rc := iTo b n (xLines b) (yLines b) (xLines b).length
theorem cand_wdt {b : Bd} {n : Int} {r : Rc} (h : Cand b n r) : 0 < wdt r := by unfold wdt; have := h.2.2.2.2.1; omega
/-- zeroR just where it has no width; nothing sound is wider. -/
theorem widR_spec {b : Bd} (hb : BdOk b) {n : Int} (hn2 : n ≤ b.ln) : (widR b n = zeroR ∨ 0 < wdt (widR b n)) ∧ ∀ s, Cand b n s → wdt s ≤ wdt (widR b n) := by
  rcases ref_best hb hn2 with ⟨h1, h2⟩ | h
  · exact ⟨.inl h1, fun s hs => absurd hs (h2 s)⟩
  · exact ⟨.inr (cand_wdt h.1), fun s hs => (h.2 s hs).1⟩
theorem widR_in {b : Bd} (hb : BdOk b) {n : Int} : YIn b.wd (widR b n) := iTo_yin (by have := hb.w0; omega) (yl_in hb) (yLines_asc b) _
theorem widR_prog {b : Bd} (hb : BdOk b) {n : Int} (hn2 : n ≤ b.ln) {bs : List Int} (hp : bs.Perm (begT (b.ln - n) b.df)) (hs : bs.Pairwise (fun x y => x ≤ y)) : bTo b n bs bs.length = widR b n := widest_same hb hn2 hp hs
theorem begs_in {b : Bd} (hb : BdOk b) {n x : Int} (hn : n ≤ b.ln) (h : x ∈ begT (b.ln - n) b.df) : 0 ≤ x ∧ x + n ≤ b.ln := begin_in hb hn (beginsL_mem.1 h)
/-- The reference's round. -/
theorem jTo_step {b : Bd} {n x y z : Int} {ys : List Int} {k m : Nat} {r : Rc} {v : Bool} (hy : ys[k]? = some y) (hz : ys[k + 1 + m]? = some z) (hv : soundB b ⟨x, y, x + n, z⟩ = v) : jTo b n x ys k r (m + 1) = bif v then pick (jTo b n x ys k r m) ⟨x, y, x + n, z⟩ else jTo b n x ys k r m := by
  have h1 : ys.getD k 0 = y := by rw [List.getD_eq_getElem?_getD, hy]; rfl
  have h2 : ys.getD (k + 1 + m) 0 = z := by rw [List.getD_eq_getElem?_getD, hz]; rfl
  show pickS b (jTo b n x ys k r m) ⟨x, ys.getD k 0, x + n, ys.getD (k + 1 + m) 0⟩ = _
  rw [h1, h2]
  show (bif soundB b ⟨x, y, x + n, z⟩ then _ else _) = _
  rw [hv]
theorem iTo_out {b : Bd} {n x : Int} {xs ys : List Int} {i : Nat} (hx : xs[i]? = some x) (h : b.ln < x + n) : iTo b n xs ys (i + 1) = iTo b n xs ys i := by
  have h1 : xs.getD i 0 = x := by rw [List.getD_eq_getElem?_getD, hx]; rfl
  show (bif decide (b.ln < xs.getD i 0 + n) then _ else _) = _
  rw [h1, decide_eq_true h]; rfl
theorem iTo_in {b : Bd} {n x : Int} {xs ys : List Int} {i : Nat} (hx : xs[i]? = some x) (h : ¬ b.ln < x + n) : iTo b n xs ys (i + 1) = kTo b n x ys (iTo b n xs ys i) ys.length := by
  have h1 : xs.getD i 0 = x := by rw [List.getD_eq_getElem?_getD, hx]; rfl
  show (bif decide (b.ln < xs.getD i 0 + n) then _ else kTo b n (xs.getD i 0) ys (iTo b n xs ys i) ys.length) = _
  rw [h1, decide_eq_false h]; rfl
end Go.Proofs.Ytnjbhidncicfiaa
