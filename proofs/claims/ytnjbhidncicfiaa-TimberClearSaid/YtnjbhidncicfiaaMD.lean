/- Lines of a board and its clear lengths, plainly: no program. -/
import Derived.Test.YtnjbhidncicfiaaMC
import Derived.Test.YtnjbhidncicfiaaMS
namespace Go.Proofs.Ytnjbhidncicfiaa

def Asc (l : List Int) : Prop := l.Pairwise (fun a b => a < b)
/-- A number more in an ascending list. -/
def insS (n : Int) : List Int → List Int
  | [] => [n]
  | a :: r => if a = n then a :: r else if a < n then a :: insS n r else n :: a :: r
theorem insS_mem {n x : Int} : ∀ {l : List Int}, x ∈ insS n l ↔ x = n ∨ x ∈ l
  | [] => by simp [insS]
  | a :: r => by
    unfold insS
    by_cases h1 : a = n
    · rw [if_pos h1]; subst h1; simp
    · rw [if_neg h1]
      by_cases h2 : a < n
      · rw [if_pos h2, List.mem_cons, insS_mem, List.mem_cons]
        constructor
        · rintro (h | h | h) <;> simp [h]
        · rintro (h | h | h) <;> simp [h]
      · rw [if_neg h2]; simp
theorem insS_asc {n : Int} : ∀ {l : List Int}, Asc l → Asc (insS n l)
  | [], _ => List.pairwise_singleton _ _
  | a :: r, h => by
    have hp := List.pairwise_cons.1 h
    unfold insS
    by_cases h1 : a = n
    · rw [if_pos h1]; exact h
    · rw [if_neg h1]
      by_cases h2 : a < n
      · rw [if_pos h2]
        refine List.pairwise_cons.2 ⟨fun x hx => ?_, insS_asc hp.2⟩
        rcases insS_mem.1 hx with e | e
        · omega
        · exact hp.1 x e
      · rw [if_neg h2]
        refine List.pairwise_cons.2 ⟨fun x hx => ?_, h⟩
        rcases List.mem_cons.1 hx with e | e
        · omega
        · have := hp.1 x e; omega
theorem asc_lt {l : List Int} (h : Asc l) {i j : Nat} (hij : i < j) (hj : j < l.length) : l[i]'(by omega) < l[j] := List.pairwise_iff_getElem.1 h i j (by omega) hj hij
/-- In an ascending list nothing lies between neighbours. -/
theorem asc_gap {l : List Int} (h : Asc l) {i : Nat} (hi : i + 1 < l.length) {x : Int} (hx : x ∈ l) : x ≤ l[i]'(by omega) ∨ l[i + 1] ≤ x := by
  obtain ⟨k, hk, rfl⟩ := List.mem_iff_getElem.1 hx
  rcases Nat.lt_or_ge k (i + 1) with e | e
  · left
    by_cases e2 : k = i
    · subst e2; exact Int.le_refl _
    · have := asc_lt h (show k < i by omega) (by omega); omega
  · right
    by_cases e2 : k = i + 1
    · subst e2; exact Int.le_refl _
    · have := asc_lt h (show i + 1 < k by omega) hk; omega
def xLines (b : Bd) : List Int := b.df.foldl (fun l d => insS d.x2 (insS d.x1 l)) (insS b.ln [0])
def yLines (b : Bd) : List Int := b.df.foldl (fun l d => insS d.y2 (insS d.y1 l)) (insS b.wd [0])
theorem fold_lines {f g : Rc → Int} : ∀ (ds : List Rc) (l : List Int), Asc l → Asc (ds.foldl (fun l d => insS (g d) (insS (f d) l)) l) ∧ ∀ x, x ∈ ds.foldl (fun l d => insS (g d) (insS (f d) l)) l ↔ x ∈ l ∨ ∃ d ∈ ds, x = f d ∨ x = g d
  | [], l, h => ⟨h, fun x => by simp⟩
  | d :: ds, l, h => by
    obtain ⟨a, m⟩ := fold_lines (f := f) (g := g) ds (insS (g d) (insS (f d) l)) (insS_asc (insS_asc h))
    refine ⟨a, fun x => ?_⟩
    rw [List.foldl_cons, m x, insS_mem, insS_mem]
    constructor
    · rintro ((h | h | h) | ⟨e, he, h⟩)
      · exact .inr ⟨d, List.mem_cons_self .., .inr h⟩
      · exact .inr ⟨d, List.mem_cons_self .., .inl h⟩
      · exact .inl h
      · exact .inr ⟨e, List.mem_cons_of_mem _ he, h⟩
    · rintro (h | ⟨e, he, h⟩)
      · exact .inl (.inr (.inr h))
      · rcases List.mem_cons.1 he with rfl | he
        · rcases h with h | h
          · exact .inl (.inr (.inl h))
          · exact .inl (.inl h)
        · exact .inr ⟨e, he, h⟩
theorem asc_one (x : Int) : Asc [x] := List.pairwise_singleton _ _
theorem xLines_asc (b : Bd) : Asc (xLines b) := (fold_lines b.df _ (insS_asc (asc_one 0))).1
theorem yLines_asc (b : Bd) : Asc (yLines b) := (fold_lines b.df _ (insS_asc (asc_one 0))).1
theorem xLines_mem {b : Bd} {x : Int} : x ∈ xLines b ↔ (x = b.ln ∨ x = 0) ∨ ∃ d ∈ b.df, x = d.x1 ∨ x = d.x2 := by
  unfold xLines; rw [(fold_lines b.df _ (insS_asc (asc_one 0))).2 x, insS_mem]; simp
theorem yLines_mem {b : Bd} {x : Int} : x ∈ yLines b ↔ (x = b.wd ∨ x = 0) ∨ ∃ d ∈ b.df, x = d.y1 ∨ x = d.y2 := by
  unfold yLines; rw [(fold_lines b.df _ (insS_asc (asc_one 0))).2 x, insS_mem]; simp

/-! ### An accepted board -/
structure RcOk (b : Bd) (d : Rc) : Prop where
  x0 : 0 ≤ d.x1
  x12 : d.x1 < d.x2
  x2 : d.x2 ≤ b.ln
  y0 : 0 ≤ d.y1
  y12 : d.y1 < d.y2
  y2 : d.y2 ≤ b.wd
structure BdOk (b : Bd) : Prop where
  l0 : 1 ≤ b.ln
  l1 : b.ln ≤ 600000
  w0 : 1 ≤ b.wd
  w1 : b.wd ≤ 100000
  t0 : 1 ≤ b.th
  t1 : b.th ≤ 20000
  c0 : 0 ≤ b.cu
  c1 : b.cu ≤ 1
  m0 : 0 ≤ b.mo
  m1 : b.mo ≤ 400
  dn : b.df.length ≤ 60
  each : ∀ d ∈ b.df, RcOk b d
theorem rcs_each {b : Bd} : ∀ {l : List Rc}, rcsFrom b l = 0 → ∀ d ∈ l, rcCode b d = 0
  | [], _, _, hd => by cases hd
  | r :: l, h, d, hd => by
    change (bif decide (rcCode b r = 0) then rcsFrom b l else rcCode b r) = 0 at h
    by_cases e : rcCode b r = 0
    · rw [decide_eq_true e] at h
      rcases List.mem_cons.1 hd with rfl | hd
      · exact e
      · exact rcs_each h d hd
    · rw [decide_eq_false e] at h; exact absurd h e
theorem rcOk_of {b : Bd} {d : Rc} (h : rcCode b d = 0) : RcOk b d := by
  unfold rcCode at h
  cases h1 : rcForm d
  · rw [h1] at h; cases h
  · rw [h1] at h
    cases h2 : allIn 0 b.ln [d.x1, d.x2] && allIn 0 b.wd [d.y1, d.y2]
    · rw [h2] at h; cases h
    · rw [Bool.and_eq_true, allIn_iff, allIn_iff] at h2
      unfold rcForm at h1
      simp only [Bool.and_eq_true, decide_eq_true_eq] at h1
      have a1 := h2.1 d.x1 (by simp); have a2 := h2.1 d.x2 (by simp); have a3 := h2.2 d.y1 (by simp); have a4 := h2.2 d.y2 (by simp)
      exact ⟨a1.1, h1.1, a2.2, a3.1, h1.2, a4.2⟩
theorem bdOk_of {b : Bd} (h : bdCode b = 0) : BdOk b := by
  unfold bdCode at h
  cases h1 : nameB b.nm && nameB b.sp
  · rw [h1] at h; cases h
  · rw [h1] at h
    cases h2 : bdRange b
    · rw [h2] at h; cases h
    · rw [h2] at h
      cases h3 : decide (60 < b.df.length)
      · rw [h3] at h
        unfold bdRange at h2
        simp only [Bool.and_eq_true, allIn_iff] at h2
        simp only [decide_eq_false_iff_not] at h3
        obtain ⟨a, b1, c, d, e⟩ := h2
        have a := a b.ln (by simp); have b1 := b1 b.wd (by simp); have c := c b.th (by simp); have d := d b.cu (by simp); have e := e b.mo (by simp)
        exact ⟨a.1, a.2, b1.1, b1.2, c.1, c.2, d.1, d.2, e.1, e.2, by omega, fun r hr => rcOk_of (rcs_each h r hr)⟩
      · rw [h3] at h; cases h
theorem bd_names {b : Bd} (h : bdCode b = 0) : nameB b.nm = true ∧ nameB b.sp = true := by
  unfold bdCode at h
  cases h1 : nameB b.nm && nameB b.sp
  · rw [h1] at h; cases h
  · rw [Bool.and_eq_true] at h1; exact h1

/-! ### Clear lengths -/
def freeX (b : Bd) (x : Int) : Prop := ∀ d ∈ b.df, ¬ (d.x1 ≤ x ∧ x < d.x2)
def IsClear (b : Bd) (l : List Iv) : Prop := NormL (-1) l ∧ ∀ x, memL x l ↔ 0 ≤ x ∧ x < b.ln ∧ freeX b x
theorem clear_unique {b : Bd} {l l' : List Iv} (h : IsClear b l) (h' : IsClear b l') : l = l' := norm_unique h.1 h'.1 fun x => (h.2 x).trans (h'.2 x).symm
def takenX (b : Bd) : List Iv := b.df.map fun d => (d.x1, d.x2)
theorem clear_prog {b : Bd} (hb : BdOk b) {ts : List Iv} (hp : ts.Perm (takenX b)) (hs : ts.Pairwise (fun a b => a.1 ≤ b.1)) : IsClear b (opn 0 (ts ++ [(b.ln, b.ln)])) := by
  have hm : ∀ t, t ∈ ts ↔ t ∈ takenX b := fun t => hp.mem_iff
  have hd : ∀ t ∈ ts, ∃ d ∈ b.df, t = (d.x1, d.x2) := fun t ht => by
    obtain ⟨d, hd, e⟩ := List.mem_map.1 ((hm t).1 ht)
    exact ⟨d, hd, e.symm⟩
  refine ⟨opn_norm (fun t ht => by obtain ⟨d, hd, rfl⟩ := hd t ht; exact (hb.each d hd).x12) (by omega), fun x => ?_⟩
  rw [opn_mem hs (fun t ht => by obtain ⟨d, hd, rfl⟩ := hd t ht; have := (hb.each d hd).x12; have := (hb.each d hd).x2; simp only; omega)]
  refine ⟨fun ⟨h1, h2, h3⟩ => ⟨h1, h2, fun d hd hh => h3 (d.x1, d.x2) ((hm _).2 (List.mem_map.2 ⟨d, hd, rfl⟩)) hh⟩, fun ⟨h1, h2, h3⟩ => ⟨h1, h2, fun t ht hh => ?_⟩⟩
  obtain ⟨d, hd, rfl⟩ := hd t ht
  exact h3 d hd hh
/-- Rectangles. -/
def overB (d r : Rc) : Bool := (decide (d.x1 < r.x2) && decide (r.x1 < d.x2)) && (decide (d.y1 < r.y2) && decide (r.y1 < d.y2))
def soundB (b : Bd) (r : Rc) : Bool := !(b.df.any fun d => overB d r)
theorem overB_iff {d r : Rc} : overB d r = true ↔ (d.x1 < r.x2 ∧ r.x1 < d.x2) ∧ (d.y1 < r.y2 ∧ r.y1 < d.y2) := by unfold overB; simp [Bool.and_eq_true]
theorem soundB_iff {b : Bd} {r : Rc} : soundB b r = true ↔ ∀ d ∈ b.df, ¬ ((d.x1 < r.x2 ∧ r.x1 < d.x2) ∧ (d.y1 < r.y2 ∧ r.y1 < d.y2)) := by
  unfold soundB
  rw [Bool.not_eq_true', List.any_eq_false]
  exact ⟨fun h d hd => fun hh => h d hd (overB_iff.2 hh), fun h d hd => fun hh => h d hd (overB_iff.1 hh)⟩
theorem seg_sound {b : Bd} (hb : BdOk b) {x y : Int} : soundB b ⟨x, 0, y, b.wd⟩ = true ↔ ∀ d ∈ b.df, ¬ (d.x1 < y ∧ x < d.x2) := by
  rw [soundB_iff]
  refine ⟨fun h d hd hh => h d hd ⟨hh, ?_⟩, fun h d hd hh => h d hd hh.1⟩
  have := hb.each d hd
  have := this.y0; have := (hb.each d hd).y12; have := (hb.each d hd).y2
  simp only; omega
/-- What the reference has behind the first i lines. -/
def clrTo (b : Bd) (xs : List Int) : Nat → List Iv
  | 0 => []
  | i + 1 => bif soundB b ⟨xs.getD i 0, 0, xs.getD (i + 1) 0, b.wd⟩ then addSeg (clrTo b xs i) (xs.getD i 0) (xs.getD (i + 1) 0) else clrTo b xs i
theorem x_first {b : Bd} (hb : BdOk b) : (xLines b).getD 0 0 = 0 ∧ 2 ≤ (xLines b).length ∧ (xLines b).getD ((xLines b).length - 1) 0 = b.ln := by
  have asc := xLines_asc b
  have m0 : (0 : Int) ∈ xLines b := xLines_mem.2 (.inl (.inr rfl))
  have mL : b.ln ∈ xLines b := xLines_mem.2 (.inl (.inl rfl))
  have hge : ∀ x ∈ xLines b, 0 ≤ x ∧ x ≤ b.ln := fun x hx => by
    have := hb.l0
    rcases xLines_mem.1 hx with (h | h) | ⟨d, hd, h | h⟩
    · omega
    · omega
    · have := hb.each d hd; have := this.x0; have := (hb.each d hd).x12; have := (hb.each d hd).x2; omega
    · have := hb.each d hd; have := this.x0; have := (hb.each d hd).x12; have := (hb.each d hd).x2; omega
  obtain ⟨i, hi, e0⟩ := List.mem_iff_getElem.1 m0
  obtain ⟨j, hj, eL⟩ := List.mem_iff_getElem.1 mL
  have hl0 := hb.l0
  have hij : i ≠ j := fun e => by subst e; rw [e0] at eL; omega
  have i0 : i = 0 := by
    rcases Nat.eq_zero_or_pos i with h | h
    · exact h
    · have h1 := asc_lt asc h hi
      have h2 := (hge _ (List.getElem_mem (show 0 < (xLines b).length by omega))).1
      rw [e0] at h1; omega
  have jl : j = (xLines b).length - 1 := by
    rcases Nat.lt_or_ge j ((xLines b).length - 1) with h | h
    · have h1 := asc_lt asc h (by omega)
      have h2 := (hge _ (List.getElem_mem (show (xLines b).length - 1 < (xLines b).length by omega))).2
      rw [eL] at h1; omega
    · omega
  refine ⟨by rw [getD_at (by omega)]; subst i0; exact e0, by omega, by rw [getD_at (by omega)]; subst jl; exact eL⟩
theorem clr_inv {b : Bd} (hb : BdOk b) : ∀ i, i < (xLines b).length → NormL (-1) (clrTo b (xLines b) i) ∧ lastHi (-1) (clrTo b (xLines b) i) ≤ (xLines b).getD i 0 ∧
    ∀ x, memL x (clrTo b (xLines b) i) ↔ 0 ≤ x ∧ x < (xLines b).getD i 0 ∧ freeX b x
  | 0, _ => by
    have h0 := (x_first hb).1
    refine ⟨trivial, by rw [h0]; simp [clrTo, lastHi], fun x => ?_⟩
    rw [h0]
    exact ⟨fun h => absurd h (memL_nil _), fun ⟨h1, h2, _⟩ => by omega⟩
  | i + 1, hi => by
    obtain ⟨n, hl, m⟩ := clr_inv hb i (by omega)
    have asc := xLines_asc b
    have e1 : (xLines b).getD i 0 = (xLines b)[i]'(by omega) := getD_at (by omega)
    have e2 : (xLines b).getD (i + 1) 0 = (xLines b)[i + 1] := getD_at hi
    have hxy := asc_lt asc (show i < i + 1 by omega) hi
    have gap := fun x hx => asc_gap asc hi (x := x) hx
    rw [← e1, ← e2] at hxy
    rw [← e1, ← e2] at gap
    have x0 : 0 ≤ (xLines b).getD i 0 := by
      have z := (x_first hb).1
      rcases Nat.eq_zero_or_pos i with h | h
      · subst h; omega
      · have z1 : (xLines b).getD 0 0 = (xLines b)[0]'(by omega) := getD_at (by omega)
        have := asc_lt asc h (by omega); omega
    have inside : ∀ x, (xLines b).getD i 0 ≤ x → x < (xLines b).getD (i + 1) 0 → (freeX b x ↔ soundB b ⟨(xLines b).getD i 0, 0, (xLines b).getD (i + 1) 0, b.wd⟩ = true) := fun x h1 h2 => by
      rw [seg_sound hb]
      constructor
      · intro hf d hd hh
        apply hf d hd
        have g1 := gap d.x1 (xLines_mem.2 (.inr ⟨d, hd, .inl rfl⟩))
        have g2 := gap d.x2 (xLines_mem.2 (.inr ⟨d, hd, .inr rfl⟩))
        omega
      · intro hf d hd hh
        apply hf d hd
        omega
    show NormL (-1) (bif soundB b ⟨(xLines b).getD i 0, 0, (xLines b).getD (i + 1) 0, b.wd⟩ then addSeg (clrTo b (xLines b) i) ((xLines b).getD i 0) ((xLines b).getD (i + 1) 0) else clrTo b (xLines b) i) ∧ lastHi (-1) (bif soundB b ⟨(xLines b).getD i 0, 0, (xLines b).getD (i + 1) 0, b.wd⟩ then addSeg (clrTo b (xLines b) i) ((xLines b).getD i 0) ((xLines b).getD (i + 1) 0) else clrTo b (xLines b) i) ≤ _ ∧ ∀ x, memL x (bif soundB b ⟨(xLines b).getD i 0, 0, (xLines b).getD (i + 1) 0, b.wd⟩ then addSeg (clrTo b (xLines b) i) ((xLines b).getD i 0) ((xLines b).getD (i + 1) 0) else clrTo b (xLines b) i) ↔ _
    cases hs : soundB b ⟨(xLines b).getD i 0, 0, (xLines b).getD (i + 1) 0, b.wd⟩
    · rw [cond_false]
      refine ⟨n, by omega, fun x => ?_⟩
      rw [m x]
      refine ⟨fun ⟨h1, h2, h3⟩ => ⟨h1, by omega, h3⟩, fun ⟨h1, h2, h3⟩ => ⟨h1, ?_, h3⟩⟩
      by_cases h : x < (xLines b).getD i 0
      · exact h
      · have := (inside x (by omega) h2).1 h3; rw [hs] at this; cases this
    · rw [cond_true]
      obtain ⟨a1, a2⟩ := addSeg_norm n (show (-1 : Int) < (xLines b).getD i 0 by omega) hl hxy
      refine ⟨a1, by rw [a2]; omega, fun x => ?_⟩
      rw [addSeg_mem n hxy, m x]
      constructor
      · rintro (⟨h1, h2, h3⟩ | ⟨h1, h2⟩)
        · exact ⟨h1, by omega, h3⟩
        · exact ⟨by omega, h2, (inside x h1 h2).2 hs⟩
      · rintro ⟨h1, h2, h3⟩
        by_cases h : x < (xLines b).getD i 0
        · exact .inl ⟨h1, h, h3⟩
        · exact .inr ⟨by omega, h2⟩
theorem clear_ref {b : Bd} (hb : BdOk b) : IsClear b (clrTo b (xLines b) ((xLines b).length - 1)) := by
  obtain ⟨_, h2, h3⟩ := x_first hb
  obtain ⟨n, _, m⟩ := clr_inv hb ((xLines b).length - 1) (by omega)
  exact ⟨n, fun x => by rw [m x, h3]⟩
end Go.Proofs.Ytnjbhidncicfiaa
