/- A symbolic run is what the model does: regions that draw their order. -/
import Derived.Test.YtnjbhidncicfiaaAxRun3
import Derived.OrdersIn
namespace Go.Ax
open Go

variable {P : Program}

/-! ### What lies ahead -/
theorem maskOf_just (ms : List Nat) : ∀ {es : List Nat} {j : Nat}, (maskOf ms es).testBit j = true → ∃ e ∈ es, j = e ∨ ∃ m, ms[e]? = some m ∧ m.testBit j = true
  | [], j, h => by simp [maskOf] at h
  | e :: t, j, h => by
    unfold maskOf at h
    rw [Nat.testBit_or, Nat.testBit_or, Bool.or_eq_true, Bool.or_eq_true] at h
    rcases h with (h | h) | h
    · rw [Nat.testBit_two_pow] at h
      exact ⟨e, List.mem_cons_self .., .inl (of_decide_eq_true h).symm⟩
    · cases hm : lget ms e with
      | none => rw [hm] at h; simp at h
      | some m => rw [hm] at h; rw [lget_eq] at hm; exact ⟨e, List.mem_cons_self .., .inr ⟨m, hm, h⟩⟩
    · obtain ⟨e', he', hx⟩ := maskOf_just ms h
      exact ⟨e', List.mem_cons_of_mem _ he', hx⟩
/-- The masks already made stay. -/
theorem masksOf_keep : ∀ (t : List Oper) (acc : List Nat) (i m : Nat), acc[i]? = some m → (masksOf t acc)[i]? = some m
  | [], acc, i, m, h => h
  | o :: t, acc, i, m, h => by
    unfold masksOf
    refine masksOf_keep t _ i m ?_
    rw [List.getElem?_append_left (by rw [List.getElem?_eq_some_iff] at h; exact h.1)]
    exact h
theorem masksOf_just : ∀ (t : List Oper) (acc : List Nat) (i m : Nat) (o : Oper), t[i]? = some o → (masksOf t acc)[acc.length + i]? = some m →
    ∀ j, m.testBit j = true → ∃ e ∈ edgesOf .any o, j = e ∨ ∃ m', (masksOf t acc)[e]? = some m' ∧ m'.testBit j = true
  | [], acc, i, m, o, ho, _, _, _ => by simp at ho
  | q :: t, acc, 0, m, o, ho, hm, j, hj => by
    simp at ho; subst ho
    unfold masksOf at hm ⊢
    have hk := masksOf_keep t (acc ++ [maskOf acc (edgesOf .any q)]) acc.length (maskOf acc (edgesOf .any q)) (by simp)
    rw [Nat.add_zero, hk] at hm
    injection hm with hm; subst hm
    obtain ⟨e, he, hx⟩ := maskOf_just acc hj
    refine ⟨e, he, ?_⟩
    rcases hx with hx | ⟨m', hm', hb⟩
    · exact .inl hx
    · exact .inr ⟨m', masksOf_keep t _ e m' (by rw [List.getElem?_append_left (by rw [List.getElem?_eq_some_iff] at hm'; exact hm'.1)]; exact hm'), hb⟩
  | q :: t, acc, i + 1, m, o, ho, hm, j, hj => by
    unfold masksOf at hm ⊢
    have := masksOf_just t (acc ++ [maskOf acc (edgesOf .any q)]) i m o (by simpa using ho) (by rw [← hm]; congr 1; simp; omega) j hj
    exact this
theorem masksOf_length : ∀ (t : List Oper) (acc : List Nat), (masksOf t acc).length = acc.length + t.length
  | [], acc => rfl
  | o :: t, acc => by unfold masksOf; rw [masksOf_length t]; simp; omega

/-! ### Heaps out of items -/
theorem withRows_get : ∀ {l : Rows'} {h : T Row} {i : Nat} {r : Row}, (withRows h l).get i = some r → (i, r) ∈ l ∨ ((∀ r', (i, r') ∉ l) ∧ h.get i = some r)
  | [], h, i, r, hg => .inr ⟨by simp, hg⟩
  | (j, q) :: t, h, i, r, hg => by
    unfold withRows at hg
    rcases withRows_get hg with h1 | ⟨h1, h2⟩
    · exact .inl (List.mem_cons_of_mem _ h1)
    · rcases T.get_set _ _ _ _ _ _ h2 with ⟨rfl, rfl⟩ | ⟨h3, h4⟩
      · exact .inl (List.mem_cons_self ..)
      · refine .inr ⟨fun r' hr' => ?_, h4⟩
        rcases List.mem_cons.1 hr' with e | e
        · injection e with e1 _; exact h3 e1
        · exact h1 r' e
theorem withItems_get {keep : Nat → Bool} : ∀ {l : List (Nat × Rows')} {h : T Row} {i : Nat} {r : Row}, (withItems h keep l).get i = some r → (∃ j rows, (j, rows) ∈ l ∧ keep j = true ∧ (i, r) ∈ rows) ∨ h.get i = some r
  | [], h, i, r, hg => .inr hg
  | (j, rows) :: t, h, i, r, hg => by
    unfold withItems at hg
    split at hg
    · rename_i hk
      rcases withItems_get hg with ⟨j', rows', h1, h2, h3⟩ | h1
      · exact .inl ⟨j', rows', List.mem_cons_of_mem _ h1, h2, h3⟩
      · rcases withRows_get h1 with h2 | ⟨_, h2⟩
        · exact .inl ⟨j, rows, List.mem_cons_self .., hk, h2⟩
        · exact .inr h2
    · rcases withItems_get hg with ⟨j', rows', h1, h2, h3⟩ | h1
      · exact .inl ⟨j', rows', List.mem_cons_of_mem _ h1, h2, h3⟩
      · exact .inr h1
theorem newRows_mem {h : T Row} : ∀ {k n i : Nat} {r : Row}, (i, r) ∈ newRows h n k → n ≤ i ∧ i < n + k ∧ h.get i = some r
  | 0, n, i, r, hm => by simp [newRows] at hm
  | k + 1, n, i, r, hm => by
    unfold newRows at hm
    split at hm
    · rename_i q hq
      rcases List.mem_cons.1 hm with e | e
      · injection e with e1 e2; subst e1 e2; exact ⟨Nat.le_refl _, by omega, hq⟩
      · obtain ⟨h1, h2, h3⟩ := newRows_mem e; exact ⟨by omega, by omega, h3⟩
    · obtain ⟨h1, h2, h3⟩ := newRows_mem hm; exact ⟨by omega, by omega, h3⟩
theorem onlySlots_get {fr : Fr} : ∀ {l : List Tmp} {t : Tmp} {v : AV}, (onlySlots fr l).get t = some v → t ∈ l ∧ fr.tmps.get t = some v
  | [], t, v, h => by cases h
  | x :: l, t, v, h => by
    unfold onlySlots at h
    split at h
    · rename_i u hu
      rcases T.get_set _ _ _ _ _ _ h with ⟨rfl, rfl⟩ | ⟨_, h2⟩
      · exact ⟨List.mem_cons_self .., hu⟩
      · obtain ⟨h3, h4⟩ := onlySlots_get h2; exact ⟨List.mem_cons_of_mem _ h3, h4⟩
    · obtain ⟨h3, h4⟩ := onlySlots_get h; exact ⟨List.mem_cons_of_mem _ h3, h4⟩

/-! ### The run in the text's order -/
noncomputable def startH (all : List Oper) (i : Nat) (m : Nat) (o : Oper) (d : Draw) : T Row :=
  match kindAt all i o with
  | 0 => .leaf
  | 1 => withItems d.b (fun j => m.testBit j) d.items
  | _ => withItems d.b (fun _ => true) d.items
noncomputable def startFr (all : List Oper) (o : Oper) (d : Draw) : Fr := { d.fr with tmps := onlySlots d.fr (readsOf all o) }
/-- What one operation makes of the draw's state. -/
def Next' (all : List Oper) (i : Nat) (o : Oper) (v : AV) (S : St) (d d' : Draw) : Prop :=
  d'.fr = d.fr.put o.dst v ∧ d'.n = S.n ∧ d.n ≤ S.n ∧
  ((kindAt all i o = 0 ∧ S.n = d.n ∧ d'.b = d.b ∧ d'.items = d.items ∧ d'.lo = d.lo) ∨
   (kindAt all i o = 1 ∧ d.n ≤ S.lo ∧ d'.b = d.b ∧ d'.items = d.items ++ [(i, newRows S.h d.n (S.n - d.n))] ∧ d'.lo = d.lo) ∨
   (2 ≤ kindAt all i o ∧ d'.b = S.h ∧ d'.items = [] ∧ d'.lo = min d.lo S.lo))
theorem drawOne_parts {r : Run} {all : List Oper} {i m : Nat} {o : Oper} {d d' : Draw} (h : drawOne P r all i m o d = some d') :
    ∃ v S, xOne P r all (startFr all o d) o { h := startH all i m o d, n := d.n, lo := big } = some (v, S) ∧ Next' all i o v S d d' := by
  unfold drawOne at h
  split at h
  · rename_i hk
    split at h
    · rename_i v S hx
      split at h
      · rename_i hn
        have hn := Nat.eq_of_beq_eq_true hn
        injection h with h; subst h
        refine ⟨v, S, by simpa only [startH, startFr, hk] using hx, rfl, hn.symm, by omega, .inl ⟨hk, hn, rfl, rfl, rfl⟩⟩
      · cases h
    · cases h
  · rename_i hk
    split at h
    · rename_i v S hx
      split at h
      · rename_i hn
        obtain ⟨h1, h2⟩ := and_true' hn
        have h1 := Nat.le_of_ble_eq_true h1
        have h2 := Nat.le_of_ble_eq_true h2
        injection h with h; subst h
        refine ⟨v, S, by simpa only [startH, startFr, hk] using hx, rfl, rfl, h2, .inr (.inl ⟨hk, h1, rfl, rfl, rfl⟩)⟩
      · cases h
    · cases h
  · rename_i hk0 hk1
    have hk : 2 ≤ kindAt all i o := by
      rcases Nat.lt_or_ge (kindAt all i o) 2 with hlt | hge
      · exfalso
        rcases Nat.lt_or_ge (kindAt all i o) 1 with h0 | h1
        · exact hk0 (by omega)
        · exact hk1 (by omega)
      · exact hge
    split at h
    · rename_i v S hx
      split at h
      · rename_i hn
        have hn := Nat.le_of_ble_eq_true hn
        injection h with h; subst h
        refine ⟨v, S, ?_, rfl, rfl, hn, .inr (.inr ⟨hk, rfl, rfl, rfl⟩)⟩
        have : startH all i m o d = withItems d.b (fun _ => true) d.items := by
          unfold startH
          split
          · rename_i h0; omega
          · rename_i h0; omega
          · rfl
        rw [this]; exact hx
      · cases h
    · cases h
theorem drawRun_trace {r : Run} {all : List Oper} {ms : List Nat} : ∀ {t : List Oper} {i : Nat} {d df : Draw}, drawRun P r all ms i t d = some df →
    ∃ D : Nat → Draw, D i = d ∧ D (i + t.length) = df ∧ ∀ k, k < t.length → ∃ m o, t[k]? = some o ∧ ms[i + k]? = some m ∧ drawOne P r all (i + k) m o (D (i + k)) = some (D (i + k + 1))
  | [], i, d, df, h => by
    injection h with h; subst h
    exact ⟨fun _ => d, rfl, rfl, fun k hk => by simp at hk⟩
  | o :: t, i, d, df, h => by
    unfold drawRun at h
    split at h
    · rename_i m hm
      rw [lget_eq] at hm
      split at h
      · rename_i d1 hd1
        obtain ⟨D, h1, h2, h3⟩ := drawRun_trace h
        refine ⟨fun k => if k = i then d else D k, by simp, ?_, fun k hk => ?_⟩
        · have : i + (o :: t).length ≠ i := by simp
          simp only [if_neg this]
          rw [← h2]; congr 1; simp; omega
        · cases k with
          | zero =>
            refine ⟨m, o, rfl, hm, ?_⟩
            have : i + 0 + 1 ≠ i := by omega
            simp only [Nat.add_zero, if_true]
            rw [if_neg (by omega), h1]; exact hd1
          | succ k =>
            obtain ⟨m', o', g1, g2, g3⟩ := h3 k (by simpa using hk)
            refine ⟨m', o', by simpa using g1, by rw [show i + (k + 1) = i + 1 + k from by omega]; exact g2, ?_⟩
            simp only
            rw [if_neg (by omega), if_neg (by omega), show i + (k + 1) = i + 1 + k from by omega]; exact g3
      · cases h
    · cases h

/-- The whole run, by the operations' places. -/
structure Txt (P : Program) (r : Run) (all : List Oper) (s0 : St) (fr0 : Fr) (D : Nat → Draw) (M : Nat → Nat) (O : Nat → Oper) (V : Nat → AV) (S : Nat → St) : Prop where
  ops : ∀ k, k < all.length → all[k]? = some (O k)
  masks : ∀ k, k < all.length → (masksOf all [])[k]? = some (M k)
  run : ∀ k, k < all.length → xOne P r all (startFr all (O k) (D k)) (O k) { h := startH all k (M k) (O k) (D k), n := (D k).n, lo := big } = some (V k, S k)
  next : ∀ k, k < all.length → Next' all k (O k) (V k) (S k) (D k) (D (k + 1))
  zero : D 0 = { b := s0.h, items := [], n := s0.n, lo := s0.lo, fr := fr0 }
theorem txt_of {r : Run} {all : List Oper} {s0 : St} {fr0 : Fr} {df : Draw} (h : drawRun P r all (masksOf all []) 0 all { b := s0.h, items := [], n := s0.n, lo := s0.lo, fr := fr0 } = some df) :
    ∃ D M O V S, Txt P r all s0 fr0 D M O V S ∧ D all.length = df := by
  obtain ⟨D, h1, h2, h3⟩ := drawRun_trace h
  have H : ∀ k, ∃ x : Nat × Oper × AV × St, k < all.length → all[k]? = some x.2.1 ∧ (masksOf all [])[k]? = some x.1 ∧
      xOne P r all (startFr all x.2.1 (D k)) x.2.1 { h := startH all k x.1 x.2.1 (D k), n := (D k).n, lo := big } = some (x.2.2.1, x.2.2.2) ∧ Next' all k x.2.1 x.2.2.1 x.2.2.2 (D k) (D (k + 1)) := by
    intro k
    by_cases hk : k < all.length
    · obtain ⟨m, o, g1, g2, g3⟩ := h3 k hk
      rw [Nat.zero_add] at g2 g3
      obtain ⟨v, S, g4, g5⟩ := drawOne_parts g3
      exact ⟨(m, o, v, S), fun _ => ⟨g1, g2, g4, g5⟩⟩
    · exact ⟨(0, default, .undef, s0), fun h => absurd h hk⟩
  obtain ⟨f, hf⟩ := Classical.axiomOfChoice H
  refine ⟨D, fun k => (f k).1, fun k => (f k).2.1, fun k => (f k).2.2.1, fun k => (f k).2.2.2, ⟨fun k hk => (hf k hk).1, fun k hk => (hf k hk).2.1, fun k hk => (hf k hk).2.2.1, fun k hk => (hf k hk).2.2.2, h1⟩, by rw [← h2, Nat.zero_add]⟩

/-! ### Where a row comes from -/
section
variable {r : Run} {all : List Oper} {s0 : St} {fr0 : Fr} {D : Nat → Draw} {M : Nat → Nat} {O : Nat → Oper} {V : Nat → AV} {S : Nat → St}

noncomputable def Kd (all : List Oper) (O : Nat → Oper) (k : Nat) : Nat := kindAt all k (O k)
def Src (all : List Oper) (s0 : St) (D : Nat → Draw) (O : Nat → Oper) (S : Nat → St) (k : Nat) (keep : Nat → Prop) (id : Nat) (q : Row) : Prop :=
  (∃ j, j < k ∧ Kd all O j = 1 ∧ keep j ∧ (∀ w, j < w → w < k → Kd all O w < 2) ∧ (D j).n ≤ id ∧ (S j).h.get id = some q) ∨
  (∃ w, w < k ∧ 2 ≤ Kd all O w ∧ (∀ w', w < w' → w' < k → Kd all O w' < 2) ∧ (S w).h.get id = some q) ∨
  ((∀ w, w < k → Kd all O w < 2) ∧ s0.h.get id = some q)
theorem Txt.parts (X : Txt P r all s0 fr0 D M O V S) : ∀ k, k ≤ all.length →
    (∀ j rows, (j, rows) ∈ (D k).items → j < k ∧ Kd all O j = 1 ∧ (∀ w, j < w → w < k → Kd all O w < 2) ∧ rows = newRows (S j).h (D j).n ((S j).n - (D j).n)) ∧
    ((∃ w, w < k ∧ 2 ≤ Kd all O w ∧ (∀ w', w < w' → w' < k → Kd all O w' < 2) ∧ (D k).b = (S w).h) ∨ ((∀ w, w < k → Kd all O w < 2) ∧ (D k).b = s0.h))
  | 0, _ => by
    rw [X.zero]
    exact ⟨(fun j rows h => by cases h), .inr ⟨(fun w hw => by omega), rfl⟩⟩
  | k + 1, hk => by
    obtain ⟨h1, h2⟩ := X.parts k (by omega)
    obtain ⟨_, _, _, hx⟩ := X.next k (by omega)
    rcases hx with ⟨g1, _, g3, g4, _⟩ | ⟨g1, _, g3, g4, _⟩ | ⟨g1, g3, g4, _⟩
    · have hK : Kd all O k = 0 := g1
      refine ⟨fun j rows h => ?_, ?_⟩
      · rw [g4] at h
        obtain ⟨a, b, c, d⟩ := h1 j rows h
        refine ⟨by omega, b, fun w hw hw' => ?_, d⟩
        rcases Nat.lt_or_ge w k with hlt | hge
        · exact c w hw hlt
        · obtain rfl : w = k := by omega
          omega
      · rw [g3]
        rcases h2 with ⟨w, a, b, c, d⟩ | ⟨a, b⟩
        · refine .inl ⟨w, by omega, b, fun w' hw hw' => ?_, d⟩
          rcases Nat.lt_or_ge w' k with hlt | hge
          · exact c w' hw hlt
          · obtain rfl : w' = k := by omega
            omega
        · refine .inr ⟨fun w hw => ?_, b⟩
          rcases Nat.lt_or_ge w k with hlt | hge
          · exact a w hlt
          · obtain rfl : w = k := by omega
            omega
    · have hK : Kd all O k = 1 := g1
      refine ⟨fun j rows h => ?_, ?_⟩
      · rw [g4] at h
        rcases List.mem_append.1 h with h | h
        · obtain ⟨a, b, c, d⟩ := h1 j rows h
          refine ⟨by omega, b, fun w hw hw' => ?_, d⟩
          rcases Nat.lt_or_ge w k with hlt | hge
          · exact c w hw hlt
          · obtain rfl : w = k := by omega
            omega
        · simp only [List.mem_singleton] at h
          injection h with e1 e2
          subst e1 e2
          exact ⟨by omega, hK, fun w hw hw' => by omega, rfl⟩
      · rw [g3]
        rcases h2 with ⟨w, a, b, c, d⟩ | ⟨a, b⟩
        · refine .inl ⟨w, by omega, b, fun w' hw hw' => ?_, d⟩
          rcases Nat.lt_or_ge w' k with hlt | hge
          · exact c w' hw hlt
          · obtain rfl : w' = k := by omega
            omega
        · refine .inr ⟨fun w hw => ?_, b⟩
          rcases Nat.lt_or_ge w k with hlt | hge
          · exact a w hlt
          · obtain rfl : w = k := by omega
            omega
    · have hK : 2 ≤ Kd all O k := g1
      refine ⟨(fun j rows h => by rw [g4] at h; cases h), .inl ⟨k, by omega, hK, (fun w' hw hw' => by omega), g3⟩⟩
theorem Txt.src (X : Txt P r all s0 fr0 D M O V S) {k : Nat} (hk : k ≤ all.length) {keep : Nat → Bool} {id : Nat} {q : Row} (h : (withItems (D k).b keep (D k).items).get id = some q) : Src all s0 D O S k (fun j => keep j = true) id q := by
  obtain ⟨h1, h2⟩ := X.parts k hk
  rcases withItems_get h with ⟨j, rows, g1, g2, g3⟩ | h
  · obtain ⟨a, b, c, d⟩ := h1 j rows g1
    rw [d] at g3
    obtain ⟨e1, _, e3⟩ := newRows_mem g3
    exact .inl ⟨j, a, b, g2, c, e1, e3⟩
  · rcases h2 with ⟨w, a, b, c, d⟩ | ⟨a, b⟩
    · exact .inr (.inl ⟨w, a, b, c, by rw [← d]; exact h⟩)
    · exact .inr (.inr ⟨a, by rw [← b]; exact h⟩)
theorem Txt.mono (X : Txt P r all s0 fr0 D M O V S) : ∀ {k l : Nat}, k ≤ l → l ≤ all.length → (D k).n ≤ (D l).n ∧ (D l).lo ≤ (D k).lo
  | k, 0, h, _ => by obtain rfl : k = 0 := by omega
                     exact ⟨Nat.le_refl _, Nat.le_refl _⟩
  | k, l + 1, h, hl => by
    rcases Nat.lt_or_ge k (l + 1) with hlt | hge
    · obtain ⟨h1, h2⟩ := X.mono (show k ≤ l by omega) (by omega)
      obtain ⟨_, a, b, c⟩ := X.next l (by omega)
      refine ⟨by omega, ?_⟩
      rcases c with ⟨_, _, _, _, c⟩ | ⟨_, _, _, _, c⟩ | ⟨_, _, _, c⟩ <;> omega
    · obtain rfl : k = l + 1 := by omega
      exact ⟨Nat.le_refl _, Nat.le_refl _⟩
theorem Txt.slots (X : Txt P r all s0 fr0 D M O V S) : ∀ k, k ≤ all.length → (D k).fr.nt = fr0.nt ∧ (D k).fr.dfs = fr0.dfs ∧ ∀ t v, t < fr0.nt → (D k).fr.tmps.get t = some v →
    (∃ j, j < k ∧ (O j).dst = some t ∧ V j = v ∧ ∀ j', j < j' → j' < k → (O j').dst ≠ some t) ∨ ((∀ j, j < k → (O j).dst ≠ some t) ∧ fr0.tmps.get t = some v)
  | 0, _ => by
    rw [X.zero]
    exact ⟨rfl, rfl, fun t v _ h => .inr ⟨fun j hj => by omega, h⟩⟩
  | k + 1, hk => by
    obtain ⟨h1, h2, h3⟩ := X.slots k (by omega)
    obtain ⟨hfr, _⟩ := X.next k (by omega)
    rw [hfr]
    cases hd : (O k).dst with
    | none =>
      refine ⟨h1, h2, fun t v ht h => ?_⟩
      rcases h3 t v ht h with ⟨j, a, b, c, d⟩ | ⟨a, b⟩
      · refine .inl ⟨j, by omega, b, c, fun j' hj hj' => ?_⟩
        rcases Nat.lt_or_ge j' k with hlt | hge
        · exact d j' hj hlt
        · obtain rfl : j' = k := by omega
          rw [hd]; simp
      · refine .inr ⟨fun j hj => ?_, b⟩
        rcases Nat.lt_or_ge j k with hlt | hge
        · exact a j hlt
        · obtain rfl : j = k := by omega
          rw [hd]; simp
    | some d =>
      unfold Fr.put
      simp only
      split
      · refine ⟨h1, h2, fun t v ht h => ?_⟩
        change ((D k).fr.tmps.set deep d (V k)).get t = some v at h
        rcases T.get_set _ _ _ _ _ _ h with ⟨rfl, rfl⟩ | ⟨hne, hg⟩
        · exact .inl ⟨k, by omega, hd, rfl, fun j' hj hj' => by omega⟩
        · rcases h3 t v ht hg with ⟨j, a, b, c, e⟩ | ⟨a, b⟩
          · refine .inl ⟨j, by omega, b, c, fun j' hj hj' => ?_⟩
            rcases Nat.lt_or_ge j' k with hlt | hge
            · exact e j' hj hlt
            · obtain rfl : j' = k := by omega
              rw [hd]; intro e; injection e with e; exact hne e.symm
          · refine .inr ⟨fun j hj => ?_, b⟩
            rcases Nat.lt_or_ge j k with hlt | hge
            · exact a j hlt
            · obtain rfl : j = k := by omega
              rw [hd]; intro e; injection e with e; exact hne e.symm
      · rename_i hb
        have hbig : ¬ d < fr0.nt := fun hlt => by
          rw [Nat.ble_eq_true_of_le (show d + 1 ≤ (D k).fr.nt by rw [h1]; exact hlt)] at hb; cases hb
        refine ⟨h1, h2, fun t v ht h => ?_⟩
        have hne : d ≠ t := fun e => hbig (by rw [e]; exact ht)
        rcases h3 t v ht h with ⟨j, a, b, c, e⟩ | ⟨a, b⟩
        · refine .inl ⟨j, by omega, b, c, fun j' hj hj' => ?_⟩
          rcases Nat.lt_or_ge j' k with hlt | hge
          · exact e j' hj hlt
          · obtain rfl : j' = k := by omega
            rw [hd]; intro e; injection e with e; exact hne e
        · refine .inr ⟨fun j hj => ?_, b⟩
          rcases Nat.lt_or_ge j k with hlt | hge
          · exact a j hlt
          · obtain rfl : j = k := by omega
            rw [hd]; intro e; injection e with e; exact hne e
end

end Go.Ax
