/- A symbolic run is what the model does: regions that draw their order, whatever the order. -/
import Derived.Test.YtnjbhidncicfiaaAxDraw
namespace Go.Ax
open Go

variable {P : Program}

/-- What the closed checks of a region say. -/
structure Static (all : List Oper) (M : Nat → Nat) (O : Nat → Oper) : Prop where
  just : ∀ i, i < all.length → ∀ j, (M i).testBit j = true → ∃ e ∈ edgesOf .any (O i), j = e ∨ (e < all.length ∧ (M e).testBit j = true)
  back : ∀ i, i < all.length → ∀ j, (M i).testBit j = true → j < i
  heap : ∀ i j, i < all.length → j < all.length → i ≠ j → 2 ≤ Kd all O i → 1 ≤ Kd all O j → (M i).testBit j = true ∨ (M j).testBit i = true
  slot : ∀ i j, i < all.length → j < all.length → i ≠ j → (M i).testBit j = true ∨ (M j).testBit i = true ∨ ∀ d, (O j).dst = some d → d ∉ readsOf all (O i) ∧ (O i).dst ≠ some d

section
variable {r : Run} {all : List Oper} {s0 : St} {fr0 : Fr} {D : Nat → Draw} {M : Nat → Nat} {O : Nat → Oper} {V : Nat → AV} {S : Nat → St}

def Fact (all : List Oper) (s0 : St) (D : Nat → Draw) (O : Nat → Oper) (S : Nat → St) (L : Nat → Prop) (id : Nat) (q : Row) (c : Nat) : Prop :=
  (∃ j, j < all.length ∧ L j ∧ Kd all O j = 1 ∧ (∀ w, w < all.length → L w → 2 ≤ Kd all O w → w < j) ∧ (D j).n ≤ id ∧ (S j).h.get id = some q ∧ c = (S j).n) ∨
  (∃ w, w < all.length ∧ L w ∧ 2 ≤ Kd all O w ∧ (∀ w', w' < all.length → L w' → 2 ≤ Kd all O w' → w' ≤ w) ∧ (S w).h.get id = some q ∧ c = (S w).n) ∨
  ((∀ w, w < all.length → L w → Kd all O w < 2) ∧ s0.h.get id = some q ∧ c = s0.n)
def Slot (all : List Oper) (s0 : St) (fr0 : Fr) (O : Nat → Oper) (V : Nat → AV) (S : Nat → St) (L : Nat → Prop) (t : Tmp) (v : AV) (c : Nat) : Prop :=
  (∃ j, j < all.length ∧ L j ∧ (O j).dst = some t ∧ V j = v ∧ (∀ j', j' < all.length → L j' → (O j').dst = some t → j' ≤ j) ∧ c = (S j).n) ∨
  ((∀ j, j < all.length → L j → (O j).dst ≠ some t) ∧ fr0.tmps.get t = some v ∧ c = s0.n)

structure Inv (all : List Oper) (s0 : St) (fr0 : Fr) (D : Nat → Draw) (M : Nat → Nat) (O : Nat → Oper) (V : Nat → AV) (S : Nat → St) (B : Nat) (p : Pl) (w0 : World) (a0 : Act) (L : Nat → Prop) (q : Pl) (a : Act) (w : World) : Prop where
  closed : ∀ i, i < all.length → L i → ∀ j, (M i).testBit j = true → L j
  fact : ∀ id x c, Fact all s0 D O S L id x c → x.live = true → q.has c id ∧ B ≤ q.ρ id ∧ q.ρ id < w.heap.size ∧ x.is q c id w.heap[q.ρ id]?
  inj : ∀ id x c id' x' c', Fact all s0 D O S L id x c → x.live = true → Fact all s0 D O S L id' x' c' → x'.live = true → q.ρ id = q.ρ id' → id = id'
  fits : p.fits q s0.n
  back : ∀ id, id < s0.n → q.ok id → p.ok id
  given : ∀ id, q.ok id → id < s0.n ∨ ∃ j, j < all.length ∧ L j ∧ (D j).n ≤ id ∧ id < (S j).n
  size : a.tmps.size = fr0.nt
  defers : a.defers = a0.defers
  slot : ∀ t v c, t < fr0.nt → Slot all s0 fr0 O V S L t v c → ∃ u, a.tmps[t]? = some u ∧ v.is q c u
  grew : w0.heap.size ≤ w.heap.size
  keep : ∀ b, b < w0.heap.size → (∀ i, (D all.length).lo ≤ i → s0.live i → p.ρ i ≠ b) → w.heap[b]? = w0.heap[b]?
  new : ∀ id x c, Fact all s0 D O S L id x c → x.live = true → s0.n ≤ id → w0.heap.size ≤ q.ρ id ∨ ∃ j, (D all.length).lo ≤ j ∧ s0.live j ∧ q.ρ id = p.ρ j
  old : ∀ id x c, Fact all s0 D O S L id x c → x.live = true → id < s0.n → s0.live id
  os : w.os = w0.os
  tape : w.tape = w0.tape
  output : w.output = w0.output

variable {B : Nat} {p q : Pl} {w0 w : World} {a0 a : Act} {L : Nat → Prop}

/-- What lies ahead of an operation whose edges are listed is listed. -/
theorem pre_listed (Z : Static all M O) (hI : ∀ i, i < all.length → L i → ∀ j, (M i).testBit j = true → L j) {i : Nat} (hi : i < all.length) (he : ∀ e ∈ edgesOf .any (O i), L e) : ∀ j, (M i).testBit j = true → L j := by
  intro j hj
  obtain ⟨e, hem, hx⟩ := Z.just i hi j hj
  rcases hx with rfl | ⟨hel, hb⟩
  · exact he _ hem
  · exact hI e hel (he e hem) j hb

theorem fact_of_src (X : Txt P r all s0 fr0 D M O V S) (Z : Static all M O) (hcl : ∀ i, i < all.length → L i → ∀ j, (M i).testBit j = true → L j) {i : Nat} (hi : i < all.length) (hnl : ¬ L i) (hpre : ∀ j, (M i).testBit j = true → L j) (hk : 1 ≤ Kd all O i)
    {keep : Nat → Prop} (hkeep : ∀ j, j < i → Kd all O j = 1 → keep j → L j) {id : Nat} {x : Row} (h : Src all s0 D O S i keep id x) : ∃ c, c ≤ (D i).n ∧ Fact all s0 D O S L id x c := by
  have hW1 : ∀ w, w < all.length → L w → 2 ≤ Kd all O w → w < i := fun w hw hl h2 => by
    have hne : w ≠ i := fun e => hnl (e ▸ hl)
    rcases Z.heap w i hw hi hne h2 hk with h3 | h3
    · exact absurd (hcl w hw hl i h3) hnl
    · exact Z.back i hi w h3
  have hW2 : ∀ w, w < i → 2 ≤ Kd all O w → L w := fun w hw h2 => by
    rcases Z.heap w i (by omega) hi (by omega) h2 hk with h3 | h3
    · have := Z.back w (by omega) i h3; omega
    · exact hpre w h3
  have hnS : ∀ j, j < i → (S j).n ≤ (D i).n := fun j hj => by
    have := (X.next j (by omega)).2.1
    have := (X.mono (show j + 1 ≤ i by omega) (by omega)).1
    omega
  rcases h with ⟨j, hj, hK, hkp, hno, hn, hg⟩ | ⟨w, hw, h2, hno, hg⟩ | ⟨hno, hg⟩
  · refine ⟨_, hnS j hj, .inl ⟨j, by omega, hkeep j hj hK hkp, hK, fun w hw hl h2 => ?_, hn, hg, rfl⟩⟩
    have := hW1 w hw hl h2
    rcases Nat.lt_trichotomy w j with hlt | heq | hgt
    · exact hlt
    · subst heq; omega
    · have := hno w hgt this; omega
  · refine ⟨_, hnS w hw, .inr (.inl ⟨w, by omega, hW2 w hw h2, h2, fun w' hw' hl h2' => ?_, hg, rfl⟩)⟩
    have := hW1 w' hw' hl h2'
    rcases Nat.lt_or_ge w w' with hlt | hge
    · have := hno w' hlt this; omega
    · exact hge
  · refine ⟨s0.n, ?_, .inr (.inr ⟨fun w hw hl => ?_, hg, rfl⟩)⟩
    · have := (X.mono (Nat.zero_le i) (by omega)).1
      rw [X.zero] at this; exact this
    · rcases Nat.lt_or_ge (Kd all O w) 2 with hlt | hge
      · exact hlt
      · exact hno w (hW1 w hw hl hge)

theorem slots_high (X : Txt P r all s0 fr0 D M O V S) : ∀ k, k ≤ all.length → ∀ t v, ¬ t < fr0.nt → (D k).fr.tmps.get t = some v → fr0.tmps.get t = some v
  | 0, _, t, v, _, h => by rw [X.zero] at h; exact h
  | k + 1, hk, t, v, ht, h => by
    have ih := slots_high X k (by omega) t v ht
    obtain ⟨h1, _, _⟩ := X.slots k (by omega)
    rw [(X.next k (by omega)).1] at h
    cases hd : (O k).dst with
    | none => rw [hd] at h; exact ih h
    | some d =>
      rw [hd] at h
      unfold Fr.put at h
      simp only at h
      split at h
      · rename_i hb
        have hb := Nat.le_of_ble_eq_true hb
        rw [h1] at hb
        change ((D k).fr.tmps.set deep d (V k)).get t = some v at h
        rcases T.get_set _ _ _ _ _ _ h with ⟨rfl, _⟩ | ⟨_, hg⟩
        · omega
        · exact ih hg
      · exact ih h
/-- The state in which an operation runs. -/
theorem start_rel (X : Txt P r all s0 fr0 D M O V S) (Z : Static all M O) (I : Inv all s0 fr0 D M O V S B p w0 a0 L q a w) {i : Nat} (hi : i < all.length) (hnl : ¬ L i) (hpre : ∀ j, (M i).testBit j = true → L j) :
    (∀ id x, (startH all i (M i) (O i) (D i)).get id = some x → ∃ c, c ≤ (D i).n ∧ 1 ≤ Kd all O i ∧ Fact all s0 D O S L id x c) := by
  intro id x hg
  unfold startH at hg
  split at hg
  · cases hg
  · rename_i hk
    obtain ⟨c, h1, h2⟩ := fact_of_src X Z I.closed hi hnl hpre (show 1 ≤ Kd all O i by show 1 ≤ kindAt _ _ _; omega) (keep := fun j => (M i).testBit j = true) (fun j _ _ h => hpre j h) (X.src (by omega) hg)
    exact ⟨c, h1, by show 1 ≤ kindAt _ _ _; omega, h2⟩
  · rename_i hk0 hk1
    have hk : 2 ≤ Kd all O i := by
      rcases Nat.lt_or_ge (Kd all O i) 2 with hlt | hge
      · exfalso
        rcases Nat.lt_or_ge (Kd all O i) 1 with h0 | h1
        · exact hk0 (by show kindAt _ _ _ = 0; have : Kd all O i = kindAt all i (O i) := rfl; omega)
        · exact hk1 (by show kindAt _ _ _ = 1; have : Kd all O i = kindAt all i (O i) := rfl; omega)
      · exact hge
    obtain ⟨c, h1, h2⟩ := fact_of_src X Z I.closed hi hnl hpre (show 1 ≤ Kd all O i by omega) (keep := fun _ => true = true) (fun j hj hK _ => by
      rcases Z.heap i j hi (by omega) (by omega) hk (by omega) with h3 | h3
      · exact hpre j h3
      · have := Z.back j (by omega) i h3; omega) (X.src (by omega) hg)
    exact ⟨c, h1, by omega, h2⟩
theorem start_is_rel (X : Txt P r all s0 fr0 D M O V S) (Z : Static all M O) (I : Inv all s0 fr0 D M O V S B p w0 a0 L q a w) {i : Nat} (hi : i < all.length) (hnl : ¬ L i) (hpre : ∀ j, (M i).testBit j = true → L j) :
    Rel B q { h := startH all i (M i) (O i) (D i), n := (D i).n, lo := big } w := by
  have hsr := start_rel X Z I hi hnl hpre
  refine ⟨fun id x hg hl => ?_, fun id id' hg hg' he => ?_⟩
  · obtain ⟨c, hc, _, hF⟩ := hsr id x hg
    obtain ⟨h1, h2, h3, h4⟩ := I.fact id x c hF hl
    have hself : q.fits q c := fun _ h => ⟨h.2, rfl, rfl⟩
    exact ⟨hself.has hc h1, h2, h3, h4.fits hself hc h1⟩
  · obtain ⟨x, hg, hl⟩ := hg
    obtain ⟨x', hg', hl'⟩ := hg'
    obtain ⟨c, _, _, hF⟩ := hsr id x hg
    obtain ⟨c', _, _, hF'⟩ := hsr id' x' hg'
    exact I.inj id x c id' x' c' hF hl hF' hl' he
theorem start_is_fr (X : Txt P r all s0 fr0 D M O V S) (Z : Static all M O) (I : Inv all s0 fr0 D M O V S B p w0 a0 L q a w) (hf0 : fr0.is p s0.n a0) {i : Nat} (hi : i < all.length) (hnl : ¬ L i) (hpre : ∀ j, (M i).testBit j = true → L j) :
    (startFr all (O i) (D i)).is q (D i).n a := by
  obtain ⟨h1, h2, h3⟩ := X.slots i (by omega)
  have hself : ∀ c, q.fits q c := fun c _ h => ⟨h.2, rfl, rfl⟩
  have hn0 : s0.n ≤ (D i).n := by
    have := (X.mono (Nat.zero_le i) (by omega)).1
    rw [X.zero] at this; exact this
  refine ⟨by rw [I.size]; exact h1.symm, fun t v ht => ?_, ?_, fun d hd => ?_⟩
  · obtain ⟨hrd, hg⟩ := onlySlots_get ht
    -- who writes the slot is comparable with the reader
    have hcmp : ∀ j, j < all.length → j ≠ i → (O j).dst = some t → (M i).testBit j = true ∨ (M j).testBit i = true := fun j hj hne hd => by
      rcases Z.slot i j hi hj (fun e => hne e.symm) with h | h | h
      · exact .inl h
      · exact .inr h
      · exact absurd hrd (h t hd).1
    have hlist : ∀ j, j < all.length → L j → (O j).dst = some t → j < i := fun j hj hl hd => by
      have hne : j ≠ i := fun e => hnl (e ▸ hl)
      rcases hcmp j hj hne hd with h | h
      · exact Z.back i hi j h
      · exact absurd (I.closed j hj hl i h) hnl
    have hback : ∀ j, j < i → (O j).dst = some t → L j := fun j hj hd => by
      rcases hcmp j (by omega) (by omega) hd with h | h
      · exact hpre j h
      · have := Z.back j (by omega) i h; omega
    have htn : t < fr0.nt := Decidable.byContradiction fun hh => by
      obtain ⟨u, hu, _⟩ := hf0.get t v (slots_high X i (by omega) t v hh hg)
      rw [Array.getElem?_eq_some_iff] at hu
      obtain ⟨hu, _⟩ := hu
      rw [hf0.size] at hu
      exact hh hu
    rcases h3 t v htn hg with ⟨j, a1, a2, a3, a4⟩ | ⟨a1, a2⟩
    · obtain ⟨u, hu, hv⟩ := I.slot t v (S j).n htn (.inl ⟨j, by omega, hback j a1 a2, a2, a3, fun j' hj' hl' hd' => by
        have := hlist j' hj' hl' hd'
        rcases Nat.lt_or_ge j j' with hlt | hge
        · exact absurd hd' (a4 j' hlt this)
        · exact hge, rfl⟩)
      refine ⟨u, hu, hv.fits (hself _) ?_⟩
      have := (X.next j (by omega)).2.1
      have := (X.mono (show j + 1 ≤ i by omega) (by omega)).1
      omega
    · obtain ⟨u, hu, hv⟩ := I.slot t v s0.n htn (.inr ⟨fun j hj hl hd => a1 j (hlist j hj hl hd) hd, a2, rfl⟩)
      exact ⟨u, hu, hv.fits (hself _) hn0⟩
  · rw [I.defers, hf0.marks]
    show _ = (D i).fr.dfs.map _
    rw [h2]
    exact List.map_congr_left fun d hd => by simp only [(I.fits d (hf0.marksLt d hd)).2.1]
  · have hd : d ∈ fr0.dfs := by rw [← h2]; exact hd
    exact I.fits.has hn0 (hf0.marksLt d hd)

/-- The placement behind an operation: its own numbers as it gave them, all others as they were. -/
def mix (q q' : Pl) (n n' : Nat) : Pl where
  ρ id := if n ≤ id ∧ id < n' then q'.ρ id else q.ρ id
  κ id := if n ≤ id ∧ id < n' then q'.κ id else q.κ id
  ok id := if n ≤ id ∧ id < n' then q'.ok id else q.ok id
theorem mix_in {q q' : Pl} {n n' id : Nat} (h : n ≤ id ∧ id < n') : (mix q q' n n').ρ id = q'.ρ id ∧ (mix q q' n n').κ id = q'.κ id ∧ ((mix q q' n n').ok id ↔ q'.ok id) := by
  simp [mix, h]
theorem mix_out {q q' : Pl} {n n' id : Nat} (h : ¬ (n ≤ id ∧ id < n')) : (mix q q' n n').ρ id = q.ρ id ∧ (mix q q' n n').κ id = q.κ id ∧ ((mix q q' n n').ok id ↔ q.ok id) := by
  simp only [mix, if_neg h, true_and]

/-- One operation more. -/
theorem inv_step (X : Txt P r all s0 fr0 D M O V S) (Z : Static all M O) (I : Inv all s0 fr0 D M O V S B p w0 a0 L q a w) {i : Nat} (hi : i < all.length) (hnl : ¬ L i) (hpre : ∀ j, (M i).testBit j = true → L j)
    {q' : Pl} {w' : World} {u : Value} (hp : Post B q { h := startH all i (M i) (O i) (D i), n := (D i).n, lo := big } w q' (S i) w') (hu : (V i).is q' (S i).n u) :
    Inv all s0 fr0 D M O V S B p w0 a0 (fun j => j = i ∨ L j) (mix q q' (D i).n (S i).n) (a.put (O i).dst u) w' := by
  have hsr := start_rel X Z I hi hnl hpre
  obtain ⟨hfr, hnn, hle, hstep⟩ := X.next i hi
  have hn0 : s0.n ≤ (D i).n := by
    have := (X.mono (Nat.zero_le i) (by omega)).1
    rw [X.zero] at this; exact this
  have hmono : ∀ j, j < i → (S j).n ≤ (D i).n := fun j hj => by
    have := (X.next j (by omega)).2.1
    have := (X.mono (show j + 1 ≤ i by omega) (by omega)).1
    omega
  have hmono' : ∀ j, i < j → j < all.length → (S i).n ≤ (D j).n := fun j hj hjl => by
    have := (X.mono (show i + 1 ≤ j by omega) (by omega)).1
    omega
  -- numbers given away are not among the operation's own
  have hfree : ∀ id, q.ok id → ¬ ((D i).n ≤ id ∧ id < (S i).n) := fun id ho hr => by
    rcases I.given id ho with h | ⟨j, hj, hl, h1, h2⟩
    · omega
    · rcases Nat.lt_trichotomy j i with hlt | heq | hgt
      · have := hmono j hlt; omega
      · subst heq; exact hnl hl
      · have := hmono' j hgt hj; omega
  have hfq : ∀ c, q.fits (mix q q' (D i).n (S i).n) c := fun c id hid => by
    obtain ⟨h1, h2, h3⟩ := mix_out (q := q) (q' := q') (hfree id hid.2)
    exact ⟨h3.2 hid.2, h1, h2⟩
  have hfq' : q'.fits (mix q q' (D i).n (S i).n) (S i).n := fun id hid => by
    by_cases hr : (D i).n ≤ id ∧ id < (S i).n
    · obtain ⟨h1, h2, h3⟩ := mix_in (q := q) (q' := q') hr
      exact ⟨h3.2 hid.2, h1, h2⟩
    · obtain ⟨h1, h2, h3⟩ := mix_out (q := q) (q' := q') hr
      have hid1 := hid.1
      have hlt : id < (D i).n := by omega
      have hok := hp.back id hlt hid.2
      have hx := hp.fits id ⟨hlt, hok⟩
      exact ⟨h3.2 hok, by rw [h1]; exact hx.2.1.symm, by rw [h2]; exact hx.2.2.symm⟩
  have hlive : ∀ id, St.live { h := startH all i (M i) (O i) (D i), n := (D i).n, lo := big } id → 1 ≤ Kd all O i ∧ ∃ x c, c ≤ (D i).n ∧ Fact all s0 D O S L id x c ∧ x.live = true := fun id ⟨x, hg, hl⟩ => by
    obtain ⟨c, h1, h2, h3⟩ := hsr id x hg
    exact ⟨h2, x, c, h1, h3, hl⟩
  have hlolo : 2 ≤ Kd all O i → (D all.length).lo ≤ (S i).lo := fun h2 => by
    have hm := (X.mono (show i + 1 ≤ all.length by omega) (Nat.le_refl _)).2
    rcases hstep with ⟨h, _⟩ | ⟨h, _⟩ | ⟨_, _, _, h⟩
    · have : Kd all O i = 0 := h; omega
    · have : Kd all O i = 1 := h; omega
    · omega
  -- below two kinds nothing that was there turns
  have hquiet : Kd all O i < 2 → ∀ b, b < w.heap.size → w'.heap[b]? = w.heap[b]? := fun hk b hb => hp.keep b hb fun id hlo hl => by
    exfalso
    obtain ⟨h1, x, c, hc, hF, hxl⟩ := hlive id hl
    have hlt := (I.fact id x c hF hxl).1.1
    rcases hstep with ⟨h, _⟩ | ⟨_, h, _⟩ | ⟨h, _⟩
    · have : Kd all O i = 0 := h; omega
    · omega
    · have : 2 ≤ Kd all O i := h; omega
  have hW2 : 2 ≤ Kd all O i → ∀ j, j < all.length → L j → 1 ≤ Kd all O j → j < i := fun h2 j hj hl h1 => by
    have hne : i ≠ j := fun e => hnl (e ▸ hl)
    rcases Z.heap i j hi hj hne h2 h1 with h | h
    · exact Z.back i hi j h
    · exact absurd (I.closed j hj hl i h) hnl
  -- the facts behind it
  have hfacts : ∀ id x c, Fact all s0 D O S (fun j => j = i ∨ L j) id x c → ((S i).h.get id = some x ∧ c = (S i).n ∧ 1 ≤ Kd all O i ∧ (Kd all O i = 1 → (D i).n ≤ id)) ∨ (Kd all O i < 2 ∧ Fact all s0 D O S L id x c) := by
    intro id x c hF
    by_cases h2 : 2 ≤ Kd all O i
    · left
      rcases hF with ⟨j, hj, hl, hK, hno, hn, hg, hc⟩ | ⟨k, hk, hl, hK, hno, hg, hc⟩ | ⟨hno, hg, hc⟩
      · exfalso
        rcases hl with rfl | hl
        · omega
        · have h1 := hW2 h2 j hj hl (by omega)
          have h3 := hno i hi (.inl rfl) h2
          omega
      · rcases hl with rfl | hl
        · exact ⟨hg, hc, by omega, fun h => by omega⟩
        · have h1 := hW2 h2 k hk hl (by omega)
          have h3 := hno i hi (.inl rfl) h2
          omega
      · have := hno i hi (.inl rfl)
        omega
    · rcases hF with ⟨j, hj, hl, hK, hno, hn, hg, hc⟩ | ⟨k, hk, hl, hK, hno, hg, hc⟩ | ⟨hno, hg, hc⟩
      · rcases hl with rfl | hl
        · exact .inl ⟨hg, hc, by omega, fun _ => hn⟩
        · exact .inr ⟨by omega, .inl ⟨j, hj, hl, hK, fun w hw hl' => hno w hw (.inr hl'), hn, hg, hc⟩⟩
      · rcases hl with rfl | hl
        · omega
        · exact .inr ⟨by omega, .inr (.inl ⟨k, hk, hl, hK, fun w hw hl' => hno w hw (.inr hl'), hg, hc⟩)⟩
      · exact .inr ⟨by omega, .inr (.inr ⟨fun w hw hl' => hno w hw (.inr hl'), hg, hc⟩)⟩
  have hnewrow : ∀ id x, (S i).h.get id = some x → x.live = true → q'.has (S i).n id ∧ B ≤ q'.ρ id ∧ q'.ρ id < w'.heap.size ∧ x.is q' (S i).n id w'.heap[q'.ρ id]? := fun id x hg hl => hp.rel.row id x hg hl
  have hmixρ : ∀ id, q'.has (S i).n id → (mix q q' (D i).n (S i).n).ρ id = q'.ρ id := fun id h => (hfq' id h).2.1
  have hmixold : ∀ id c, q.has c id → (mix q q' (D i).n (S i).n).ρ id = q.ρ id := fun id c h => (hfq c id h).2.1
  -- an operation of the first kind makes rows beyond all that was there
  have hbeyond : Kd all O i = 1 → ∀ id x, (S i).h.get id = some x → x.live = true → (D i).n ≤ id → w.heap.size ≤ q'.ρ id := fun hk id x hg hl hn => by
    rcases hp.new id hn ⟨x, hg, hl⟩ with h | ⟨j, hlo, hjl, _⟩
    · exact h
    · exfalso
      obtain ⟨_, y, c, hc, hF, hyl⟩ := hlive j hjl
      have := (I.fact j y c hF hyl).1.1
      rcases hstep with ⟨h, _⟩ | ⟨_, h, _⟩ | ⟨h, _⟩
      · have : Kd all O i = 0 := h; omega
      · omega
      · have : 2 ≤ Kd all O i := h; omega
  refine ⟨?_, ?_, ?_, ?_, ?_, ?_, ?_, ?_, ?_, ?_, ?_, ?_, ?_, ?_, ?_, ?_⟩
  · -- closed
    intro j hj hl k hk
    rcases hl with rfl | hl
    · exact .inr (hpre k hk)
    · exact .inr (I.closed j hj hl k hk)
  · -- facts
    intro id x c hF hl
    rcases hfacts id x c hF with ⟨hg, hc, _, _⟩ | ⟨hk, hF⟩
    · obtain ⟨h1, h2, h3, h4⟩ := hnewrow id x hg hl
      subst hc
      rw [hmixρ id h1]
      exact ⟨hfq'.has (Nat.le_refl _) h1, h2, h3, h4.fits hfq' (Nat.le_refl _) h1⟩
    · obtain ⟨h1, h2, h3, h4⟩ := I.fact id x c hF hl
      rw [hmixold id c h1, hquiet hk _ h3]
      exact ⟨(hfq c).has (Nat.le_refl _) h1, h2, Nat.lt_of_lt_of_le h3 hp.size, h4.fits (hfq c) (Nat.le_refl _) h1⟩
  · -- no two at one place
    intro id x c id' x' c' hF hl hF' hl' he
    rcases hfacts id x c hF with ⟨hg, _, hk1, hn⟩ | ⟨hk, hF⟩ <;> rcases hfacts id' x' c' hF' with ⟨hg', _, _, hn'⟩ | ⟨hk', hF'⟩
    · rw [hmixρ id (hnewrow id x hg hl).1, hmixρ id' (hnewrow id' x' hg' hl').1] at he
      exact hp.rel.inj id id' ⟨x, hg, hl⟩ ⟨x', hg', hl'⟩ he
    · obtain ⟨h1, h2, h3, h4⟩ := I.fact id' x' c' hF' hl'
      rw [hmixρ id (hnewrow id x hg hl).1, hmixold id' c' h1] at he
      have := hbeyond (by omega) id x hg hl (hn (by omega))
      omega
    · obtain ⟨h1, h2, h3, h4⟩ := I.fact id x c hF hl
      rw [hmixρ id' (hnewrow id' x' hg' hl').1, hmixold id c h1] at he
      have := hbeyond (by omega) id' x' hg' hl' (hn' (by omega))
      omega
    · obtain ⟨h1, _⟩ := I.fact id x c hF hl
      obtain ⟨h1', _⟩ := I.fact id' x' c' hF' hl'
      rw [hmixold id c h1, hmixold id' c' h1'] at he
      exact I.inj id x c id' x' c' hF hl hF' hl' he
  · -- fits
    intro id hid
    have h1 := I.fits id hid
    have h2 := hfq s0.n id ⟨hid.1, h1.1⟩
    exact ⟨h2.1, h2.2.1.trans h1.2.1, h2.2.2.trans h1.2.2⟩
  · intro id hid ho
    have : ¬ ((D i).n ≤ id ∧ id < (S i).n) := by omega
    exact I.back id hid ((mix_out this).2.2.1 ho)
  · intro id ho
    by_cases hr : (D i).n ≤ id ∧ id < (S i).n
    · exact .inr ⟨i, hi, .inl rfl, hr.1, hr.2⟩
    · rcases I.given id ((mix_out hr).2.2.1 ho) with h | ⟨j, hj, hl, h1, h2⟩
      · exact .inl h
      · exact .inr ⟨j, hj, .inr hl, h1, h2⟩
  · cases hd : (O i).dst with
    | none => exact I.size
    | some d => simp only [Act.put, Array.size_setIfInBounds]; exact I.size
  · cases hd : (O i).dst with
    | none => exact I.defers
    | some d => exact I.defers
  · -- slots
    intro t v c ht hs
    have hwr : ∀ j, j < all.length → L j → (O j).dst = some t → (O i).dst = some t → j < i := fun j hj hl hd hdi => by
      have hne : i ≠ j := fun e => hnl (e ▸ hl)
      rcases Z.slot i j hi hj hne with h | h | h
      · exact Z.back i hi j h
      · exact absurd (I.closed j hj hl i h) hnl
      · exact absurd hdi (h t hd).2
    by_cases hdi : (O i).dst = some t
    · have hlast : v = V i ∧ c = (S i).n := by
        rcases hs with ⟨j, hj, hl, hd, hv, hno, hc⟩ | ⟨hno, _, _⟩
        · rcases hl with rfl | hl
          · exact ⟨hv.symm, hc⟩
          · have h1 := hwr j hj hl hd hdi
            have h2 := hno i hi (.inl rfl) hdi
            omega
        · exact absurd hdi (hno i hi (.inl rfl))
      obtain ⟨rfl, rfl⟩ := hlast
      refine ⟨u, ?_, hu.fits hfq' (Nat.le_refl _)⟩
      rw [hdi]
      show (a.tmps.setIfInBounds t u)[t]? = some u
      rw [Array.getElem?_setIfInBounds_self_of_lt (by rw [I.size]; exact ht)]
    · have hs' : Slot all s0 fr0 O V S L t v c := by
        rcases hs with ⟨j, hj, hl, hd, hv, hno, hc⟩ | ⟨hno, hg, hc⟩
        · rcases hl with rfl | hl
          · exact absurd hd hdi
          · exact .inl ⟨j, hj, hl, hd, hv, fun j' hj' hl' hd' => hno j' hj' (.inr hl') hd', hc⟩
        · exact .inr ⟨fun j hj hl => hno j hj (.inr hl), hg, hc⟩
      obtain ⟨u', hu', hv'⟩ := I.slot t v c ht hs'
      refine ⟨u', ?_, hv'.fits (hfq c) (Nat.le_refl _)⟩
      cases hd : (O i).dst with
      | none => exact hu'
      | some d =>
        show (a.tmps.setIfInBounds d u)[t]? = some u'
        rw [Array.getElem?_setIfInBounds_ne (fun e => hdi (by rw [hd, e]))]
        exact hu'
  · exact Nat.le_trans I.grew hp.size
  · -- keep
    intro b hb hx
    rw [← I.keep b hb hx]
    have hbw : b < w.heap.size := Nat.lt_of_lt_of_le hb I.grew
    refine hp.keep b hbw fun id hlo hl he => ?_
    obtain ⟨hk1, x, c, hc, hF, hxl⟩ := hlive id hl
    have hhas := (I.fact id x c hF hxl).1
    have hk2 : 2 ≤ Kd all O i := by
      rcases hstep with ⟨h, _⟩ | ⟨_, h, _⟩ | ⟨h, _⟩
      · have : Kd all O i = 0 := h; omega
      · have := hhas.1; omega
      · exact h
    have hll := hlolo hk2
    have hlo' : (S i).lo ≤ id := hlo
    by_cases hid : id < s0.n
    · have hsl := I.old id x c hF hxl hid
      have hok := I.back id hid hhas.2
      have hρ := (I.fits id ⟨hid, hok⟩).2.1
      exact hx id (by omega) hsl (by rw [← hρ]; exact he)
    · rcases I.new id x c hF hxl (by omega) with h | ⟨j, h1, h2, h3⟩
      · omega
      · exact hx j h1 h2 (by rw [← h3]; exact he)
  · -- new
    intro id x c hF hl hn
    rcases hfacts id x c hF with ⟨hg, _, hk1, _⟩ | ⟨hk, hF⟩
    · have hh := (hnewrow id x hg hl).1
      rw [hmixρ id hh]
      by_cases hin : (D i).n ≤ id
      · rcases hp.new id hin ⟨x, hg, hl⟩ with h | ⟨j, h1, h2, h3⟩
        · exact .inl (Nat.le_trans I.grew h)
        · obtain ⟨_, y, c', hc', hF', hyl⟩ := hlive j h2
          have hhas := (I.fact j y c' hF' hyl).1
          have hk2 : 2 ≤ Kd all O i := by
            rcases hstep with ⟨h, _⟩ | ⟨_, h, _⟩ | ⟨h, _⟩
            · have : Kd all O i = 0 := h; omega
            · have := hhas.1; omega
            · exact h
          have hll := hlolo hk2
          rw [h3]
          by_cases hjd : j < s0.n
          · have hok := I.back j hjd hhas.2
            exact .inr ⟨j, by omega, I.old j y c' hF' hyl hjd, (I.fits j ⟨hjd, hok⟩).2.1⟩
          · exact I.new j y c' hF' hyl (by omega)
      · have hold := hp.old id (by show id < (D i).n; omega) ⟨x, hg, hl⟩
        obtain ⟨_, y, c', hc', hF', hyl⟩ := hlive id hold
        have hhas := (I.fact id y c' hF' hyl).1
        rw [(hp.fits id ⟨by show id < (D i).n; omega, hhas.2⟩).2.1]
        exact I.new id y c' hF' hyl hn
    · have hhas := (I.fact id x c hF hl).1
      rw [hmixold id c hhas]
      exact I.new id x c hF hl hn
  · -- old
    intro id x c hF hl hn
    rcases hfacts id x c hF with ⟨hg, _, _, _⟩ | ⟨hk, hF⟩
    · have hold := hp.old id (by show id < (D i).n; omega) ⟨x, hg, hl⟩
      obtain ⟨_, y, c', hc', hF', hyl⟩ := hlive id hold
      exact I.old id y c' hF' hyl hn
    · exact I.old id x c hF hl hn
  · exact hp.os.trans I.os
  · exact hp.tape.trans I.tape
  · exact hp.output.trans I.output

end
end Go.Ax
