/- A symbolic run that takes the results of some calls from a list, each proved by a run of its own. -/
import Derived.Test.YtipfdkecodadnaaGreatDoorAxAll
namespace Go.Ax
open Go

noncomputable section
/-- Rows of cells, written out. -/
abbrev RowsK := List (Nat × TypeId × Bool × List Sc)
def rowK (x : Nat × TypeId × Bool × List Sc) : Nat × Row := (x.1, .cells x.2.1 x.2.2.1 x.2.2.2.length (T.ofList x.2.2.2))
def deadK (x : Nat × TypeId × Bool × List Sc) : Nat × Row := (x.1, .dead)
def eqPs : List (Nat × Nat) → List (Nat × Nat) → Bool
  | [], [] => true
  | (a, b) :: x, (c, d) :: y => Nat.beq a c && (Nat.beq b d && eqPs x y)
  | _, _ => false
def eqSc (x y : Sc) : Bool :=
  match x with
  | .bool a => (match y with | .bool b => a == b | _ => false)
  | .int k a => (match y with | .int l b => decide (k = l) && eqFI a b | _ => false)
  | .str s => (match y with | .str t => bytesEq s.data.toList t.data.toList | _ => false)
  | .ptr i o => (match y with | .ptr j q => Nat.beq i j && Nat.beq o q | _ => false)
  | .nilp => (match y with | .nilp => true | _ => false)
  | .slc i o l c => (match y with | .slc j q m d => Nat.beq i j && (Nat.beq o q && (Nat.beq l m && Nat.beq c d)) | _ => false)
  | .slo i o l c => (match y with | .slo j q m d => Nat.beq i j && (Nat.beq o q && (Nat.beq l m && Nat.beq c d)) | _ => false)
  | .nils => (match y with | .nils => true | _ => false)
  | .fn f c => (match y with | .fn g d => Nat.beq f g && eqPs c d | _ => false)
  | .nilf => (match y with | .nilf => true | _ => false)
  | .nilm => (match y with | .nilm => true | _ => false)
  | _ => false
def eqScs : List Sc → List Sc → Bool
  | [], [] => true
  | a :: x, b :: y => eqSc a b && eqScs x y
  | _, _ => false
def eqA (x y : A1) : Bool :=
  match x with
  | .sc a => (match y with | .sc b => eqSc a b | _ => false)
  | .agg a => (match y with | .agg b => eqScs a b | _ => false)
def eqAs : List A1 → List A1 → Bool
  | [], [] => true
  | a :: x, b :: y => eqA a b && eqAs x y
  | _, _ => false
def eqV (x y : AV) : Bool :=
  match x with
  | .one a => (match y with | .one b => eqA a b | _ => false)
  | .tup a => (match y with | .tup b => eqAs a b | _ => false)
def eqVs : List AV → List AV → Bool
  | [], [] => true
  | a :: x, b :: y => eqV a b && eqVs x y
  | _, _ => false
theorem eqPs_eq : ∀ {x y : List (Nat × Nat)}, eqPs x y = true → x = y
  | [], [], _ => rfl
  | (a, b) :: x, (c, d) :: y, h => by
    simp only [eqPs, Bool.and_eq_true] at h
    rw [Nat.eq_of_beq_eq_true h.1, Nat.eq_of_beq_eq_true h.2.1, eqPs_eq h.2.2]
  | [], _ :: _, h => by cases h
  | _ :: _, [], h => by cases h
theorem eqSc_eq {x y : Sc} (h : eqSc x y = true) : x = y := by
  cases x <;> cases y <;> simp only [eqSc, Bool.and_eq_true, decide_eq_true_eq, beq_iff_eq, Bool.false_eq_true] at h
  case bool.bool => rw [h]
  case int.int => rw [eqFI_eq, beq_iff_eq] at h; rw [h.1, h.2]
  case str.str s t =>
    rw [bytesEq_eq, beq_iff_eq] at h
    obtain ⟨⟨a⟩⟩ := s; obtain ⟨⟨b⟩⟩ := t
    simp only at h
    rw [h]
  case ptr.ptr => rw [Nat.eq_of_beq_eq_true h.1, Nat.eq_of_beq_eq_true h.2]
  case slc.slc => rw [Nat.eq_of_beq_eq_true h.1, Nat.eq_of_beq_eq_true h.2.1, Nat.eq_of_beq_eq_true h.2.2.1, Nat.eq_of_beq_eq_true h.2.2.2]
  case slo.slo => rw [Nat.eq_of_beq_eq_true h.1, Nat.eq_of_beq_eq_true h.2.1, Nat.eq_of_beq_eq_true h.2.2.1, Nat.eq_of_beq_eq_true h.2.2.2]
  case fn.fn => rw [Nat.eq_of_beq_eq_true h.1, eqPs_eq h.2]
  all_goals rfl
theorem eqScs_eq : ∀ {x y : List Sc}, eqScs x y = true → x = y
  | [], [], _ => rfl
  | a :: x, b :: y, h => by
    simp only [eqScs, Bool.and_eq_true] at h
    rw [eqSc_eq h.1, eqScs_eq h.2]
  | [], _ :: _, h => by cases h
  | _ :: _, [], h => by cases h
theorem eqA_eq {x y : A1} (h : eqA x y = true) : x = y := by
  cases x <;> cases y <;> simp only [eqA, Bool.false_eq_true] at h
  · rw [eqSc_eq h]
  · rw [eqScs_eq h]
theorem eqAs_eq : ∀ {x y : List A1}, eqAs x y = true → x = y
  | [], [], _ => rfl
  | a :: x, b :: y, h => by
    simp only [eqAs, Bool.and_eq_true] at h
    rw [eqA_eq h.1, eqAs_eq h.2]
  | [], _ :: _, h => by cases h
  | _ :: _, [], h => by cases h
theorem eqV_eq {x y : AV} (h : eqV x y = true) : x = y := by
  cases x <;> cases y <;> simp only [eqV, Bool.false_eq_true] at h
  · rw [eqA_eq h]
  · rw [eqAs_eq h]
theorem eqVs_eq : ∀ {x y : List AV}, eqVs x y = true → x = y
  | [], [], _ => rfl
  | a :: x, b :: y, h => by
    simp only [eqVs, Bool.and_eq_true] at h
    rw [eqV_eq h.1, eqVs_eq h.2]
  | [], _ :: _, h => by cases h
  | _ :: _, [], h => by cases h

def rangeEq (c : T Sc) : List Sc → Nat → Bool
  | [], _ => true
  | a :: t, o => (match c.get o with | some b => eqSc a b | none => false) && rangeEq c t (Nat.succ o)
def inclOne (h : T Row) (x : Nat × TypeId × Bool × List Sc) : Bool :=
  match h.get x.1 with
  | some (.cells e b len c) => Nat.beq e x.2.1 && ((b == x.2.2.1) && (Nat.beq len x.2.2.2.length && rangeEq c x.2.2.2 0))
  | _ => false
def incl (h : T Row) : RowsK → Bool
  | [] => true
  | x :: t => inclOne h x && incl h t
theorem rangeEq_get {c : T Sc} : ∀ {l : List Sc} {o j : Nat} {s : Sc}, rangeEq c l o = true → l[j]? = some s → c.get (o + j) = some s
  | [], _, _, _, _, h => by simp at h
  | a :: t, o, j, s, h, hj => by
    simp only [rangeEq, Bool.and_eq_true] at h
    cases j with
    | zero =>
      simp at hj; subst hj
      have h1 := h.1
      split at h1
      · rename_i b hb; rw [eqSc_eq h1]; exact hb
      · cases h1
    | succ j =>
      have := rangeEq_get (j := j) h.2 (by simpa using hj)
      rw [show o + (j + 1) = Nat.succ o + j by omega]; exact this
theorem incl_mem {h : T Row} : ∀ {l : RowsK}, incl h l = true → ∀ x ∈ l, inclOne h x = true
  | [], _, x, hx => by cases hx
  | y :: t, hi, x, hx => by
    simp only [incl, Bool.and_eq_true] at hi
    rcases List.mem_cons.1 hx with rfl | hx
    · exact hi.1
    · exact incl_mem hi.2 x hx
theorem inclOne_row {h : T Row} {x : Nat × TypeId × Bool × List Sc} (hx : inclOne h x = true) :
    ∃ c, h.get x.1 = some (.cells x.2.1 x.2.2.1 x.2.2.2.length c) ∧ rangeEq c x.2.2.2 0 = true := by
  unfold inclOne at hx
  split at hx
  · rename_i e b len c hg
    simp only [Bool.and_eq_true, beq_iff_eq] at hx
    obtain ⟨h1, h2, h3, h4⟩ := hx
    rw [Nat.eq_of_beq_eq_true h1, h2, Nat.eq_of_beq_eq_true h3] at hg
    exact ⟨c, hg, h4⟩
  · cases hx
theorem row_less {p : Pl} {n i : Nat} {e : TypeId} {b : Bool} {l : List Sc} {c : T Sc} {o : Option Obj} (hr : rangeEq c l 0 = true) (h : (Row.cells e b l.length c).is p n i o) : (Row.cells e b l.length (T.ofList l)).is p n i o := by
  obtain ⟨cs, h1, h2, h3, h4, h5, h6⟩ := h
  refine ⟨cs, h1, h2, h3, h4, fun j s hj => ?_, fun j s hj => ?_⟩
  · have := ofList_get hj
    rw [List.getElem?_eq_some_iff] at this; exact this.1
  · have := rangeEq_get hr (ofList_get hj)
    rw [Nat.zero_add] at this
    exact h6 j s this

/-- A call whose result is known. -/
structure Ent where
  f : FuncId
  args : List AV
  n : Nat
  rows : RowsK
  v : AV
  n' : Nat
  lo' : Nat
  rows' : RowsK
def Ent.s (e : Ent) : St := { h := withRows .leaf (e.rows.map rowK), n := e.n, lo := big }
/-- The state behind the call. -/
def Ent.go (e : Ent) (s : St) : St := { h := withRows (withRows s.h (e.rows.map deadK)) (e.rows'.map rowK), n := e.n', lo := match Nat.ble s.lo e.lo' with | true => s.lo | false => e.lo' }
def Ent.fits (e : Ent) (f : FuncId) (args : List AV) (s : St) : Bool :=
  match Nat.beq e.f f with
  | true => (match Nat.beq e.n s.n with
    | true => eqVs e.args args && incl s.h e.rows
    | false => false)
  | false => false
def pick : List Ent → FuncId → List AV → St → Option Ent
  | [], _, _, _ => none
  | e :: t, f, args, s => match e.fits f args s with
    | true => some e
    | false => pick t f args s
def hasF : List Ent → FuncId → Bool
  | [], _ => false
  | e :: t, f => match Nat.beq e.f f with
    | true => true
    | false => hasF t f
def xCallO (P : Program) (es : List Ent) (r : Run) (f : FuncId) (args : List AV) (s : St) : Option (Out × St) :=
  match hasF es f with
  | false => xCall P r f args s
  | true => match pick es f args s with
    | some e => some (.val e.v, e.go s)
    | none => xCall P r f args s
def xTaskO (P : Program) (es : List Ent) (r : Run) (t : Task) (s : St) : Option (Out × St) :=
  match t with
  | .code rd c fr => xCode P r rd c fr s
  | .ops rd all ops fr => xOps P r rd all ops fr s
  | .call f args => xCallO P es r f args s
  | .round l args => xRound r l args s
def execO (P : Program) (es : List Ent) (k : Nat) : Run := Nat.rec (fun _ _ => none) (fun _ r => xTaskO P es r) k
def chk (e : Ent) (r : Option (Out × St)) : Bool :=
  match r with
  | some (.val v, s') => eqV e.v v && (Nat.beq e.n' s'.n && (Nat.beq e.lo' s'.lo && incl s'.h e.rows'))
  | _ => false
end

theorem pick_fits : ∀ {es : List Ent} {f : FuncId} {args : List AV} {s : St} {e : Ent}, pick es f args s = some e → e ∈ es ∧ e.fits f args s = true
  | [], _, _, _, _, h => by cases h
  | x :: t, f, args, s, e, h => by
    unfold pick at h
    split at h
    · rename_i hx; injection h with h; subst h; exact ⟨List.mem_cons_self .., hx⟩
    · have := pick_fits h; exact ⟨List.mem_cons_of_mem _ this.1, this.2⟩
theorem fits_parts {e : Ent} {f : FuncId} {args : List AV} {s : St} (h : e.fits f args s = true) : e.f = f ∧ e.n = s.n ∧ e.args = args ∧ incl s.h e.rows = true := by
  unfold Ent.fits at h
  split at h
  · rename_i h1
    split at h
    · rename_i h2
      rw [Bool.and_eq_true] at h
      exact ⟨Nat.eq_of_beq_eq_true h1, Nat.eq_of_beq_eq_true h2, eqVs_eq h.1, h.2⟩
    · cases h
  · cases h

variable {P : Program} {B : Nat} {p q : Pl} {w w' : World}
theorem rowK_mem {l : RowsK} {i : Nat} {r : Row} (h : (withRows .leaf (l.map rowK)).get i = some r) : ∃ x ∈ l, x.1 = i ∧ r = .cells x.2.1 x.2.2.1 x.2.2.2.length (T.ofList x.2.2.2) := by
  rcases withRows_get h with h | ⟨_, h⟩
  · obtain ⟨x, hx, e⟩ := List.mem_map.1 h
    injection e with e1 e2
    exact ⟨x, hx, e1, e2.symm⟩
  · cases h
theorem rel_less {s : St} {l : RowsK} {lo : Nat} (h : Rel B p s w) (hi : incl s.h l = true) : Rel B p { h := withRows .leaf (l.map rowK), n := s.n, lo } w := by
  have key : ∀ x ∈ l, p.has s.n x.1 ∧ B ≤ p.ρ x.1 ∧ p.ρ x.1 < w.heap.size ∧ (Row.cells x.2.1 x.2.2.1 x.2.2.2.length (T.ofList x.2.2.2)).is p s.n x.1 w.heap[p.ρ x.1]? ∧ s.live x.1 := fun x hx => by
    obtain ⟨c, hg, hr⟩ := inclOne_row (incl_mem hi x hx)
    obtain ⟨h1, h2, h3, h4⟩ := h.row x.1 _ hg rfl
    exact ⟨h1, h2, h3, row_less hr h4, _, hg, rfl⟩
  refine ⟨fun i r hg _ => ?_, fun i j hil hjl e => ?_, h.n8⟩
  · obtain ⟨x, hx, rfl, rfl⟩ := rowK_mem hg
    obtain ⟨h1, h2, h3, h4, _⟩ := key x hx
    exact ⟨h1, h2, h3, h4⟩
  · obtain ⟨ri, hgi, _⟩ := hil
    obtain ⟨rj, hgj, _⟩ := hjl
    obtain ⟨x, hx, rfl, -⟩ := rowK_mem hgi
    obtain ⟨y, hy, rfl, -⟩ := rowK_mem hgj
    exact h.inj _ _ (key x hx).2.2.2.2 (key y hy).2.2.2.2 e

/-- What is known of a call holds in every state that has its rows. -/
def EntOk (P : Program) (e : Ent) : Prop := ∃ s', CallFine P e.f e.args e.s e.v s' ∧ e.n' = s'.n ∧ e.lo' = s'.lo ∧ incl s'.h e.rows' = true

theorem ent_post {e : Ent} {s s' : St} (hi : incl s.h e.rows = true) (hn : e.n = s.n) (hn' : e.n' = s'.n) (hl' : e.lo' = s'.lo) (hi' : incl s'.h e.rows' = true) (hr : Rel B p s w) (h : Post B p e.s w q s' w') : Post B p s w q (e.go s) w' := by
  have hlo : (e.go s).lo = min s.lo s'.lo := by
    unfold Ent.go
    cases hb : Nat.ble s.lo e.lo'
    · have : ¬ s.lo ≤ e.lo' := fun x => by rw [Nat.ble_eq_true_of_le x] at hb; cases hb
      simp only; omega
    · have := Nat.le_of_ble_eq_true hb
      simp only; omega
  have hsl : ∀ x ∈ e.rows, s.live x.1 := fun x hx => by
    obtain ⟨c, hg, _⟩ := inclOne_row (incl_mem hi x hx)
    exact ⟨_, hg, rfl⟩
  have hel : ∀ i, e.s.live i → s.live i ∧ ∃ x ∈ e.rows, x.1 = i := fun i ⟨r, hg, _⟩ => by
    obtain ⟨x, hx, rfl, -⟩ := rowK_mem hg
    exact ⟨hsl x hx, x, hx, rfl⟩
  have hnew : ∀ x ∈ e.rows', s'.live x.1 ∧ ∃ c, s'.h.get x.1 = some (.cells x.2.1 x.2.2.1 x.2.2.2.length c) ∧ rangeEq c x.2.2.2 0 = true := fun x hx => by
    obtain ⟨c, hg, hc⟩ := inclOne_row (incl_mem hi' x hx)
    exact ⟨⟨_, hg, rfl⟩, c, hg, hc⟩
  have hgo : ∀ i r, (e.go s).h.get i = some r → r.live = true → (∃ x ∈ e.rows', x.1 = i ∧ r = .cells x.2.1 x.2.2.1 x.2.2.2.length (T.ofList x.2.2.2)) ∨ ((∀ x ∈ e.rows, x.1 ≠ i) ∧ s.h.get i = some r) := fun i r hg hl => by
    rcases withRows_get hg with h1 | ⟨_, h1⟩
    · obtain ⟨x, hx, ex⟩ := List.mem_map.1 h1
      injection ex with e1 e2
      exact .inl ⟨x, hx, e1, e2.symm⟩
    · rcases withRows_get h1 with h2 | ⟨h2, h3⟩
      · obtain ⟨x, hx, ex⟩ := List.mem_map.1 h2
        injection ex with e1 e2
        subst e2; cases hl
      · exact .inr ⟨fun x hx e1 => h2 .dead (List.mem_map.2 ⟨x, hx, by rw [← e1]; rfl⟩), h3⟩
  have hsn : e.s.n = s.n := hn
  have hfits : p.fits q s.n := by have := h.fits; rw [hsn] at this; exact this
  have hle : s.n ≤ s'.n := by have := h.le; rw [hsn] at this; exact this
  have apart : ∀ i, s.live i → (∀ x ∈ e.rows, x.1 ≠ i) → ∀ j, e.s.live j → p.ρ j ≠ p.ρ i := fun i hil hne j hjl ej => by
    obtain ⟨hj, x, hx, rfl⟩ := hel j hjl
    exact hne x hx (hr.inj _ _ hj hil ej)
  have kept : ∀ i, s.live i → (∀ x ∈ e.rows, x.1 ≠ i) → w'.heap[p.ρ i]? = w.heap[p.ρ i]? := fun i hil hne =>
    h.keep _ (hr.place hil).2 fun j _ hjl => apart i hil hne j hjl
  have moved : ∀ i, s.live i → (∀ x ∈ e.rows, x.1 ≠ i) → ∀ j, s'.live j → q.ρ j ≠ p.ρ i := fun i hil hne j hjl ej => by
    by_cases hlt : j < s.n
    · have hj := h.old j (by rw [hsn]; exact hlt) hjl
      rw [(h.fits j (h.base.has hj)).2.1] at ej
      exact apart i hil hne j hj ej
    · rcases h.new j (by rw [hsn]; omega) hjl with hx | ⟨k, _, hk, hke⟩
      · have := (hr.place hil).2; omega
      · exact apart i hil hne k hk (by rw [← hke]; exact ej)
  refine
    { base := hr
      le := by show s.n ≤ e.n'; rw [hn']; exact hle
      lo := by rw [hlo]; omega
      fits := hfits
      back := fun i hi => h.back i (by rw [hsn]; exact hi)
      rel := ⟨fun i r hg hl => ?_, fun i j hil hjl ej => ?_, by show 8 ≤ e.n'; rw [hn']; exact h.rel.n8⟩
      size := h.size
      keep := fun b hb hk => h.keep b hb fun i hi hil => hk i (by rw [hlo]; omega) (hel i hil).1
      new := fun i hi hil => ?_
      old := fun i hi hil => ?_
      os := h.os, tape := h.tape, output := h.output }
  · show q.has e.n' i ∧ B ≤ q.ρ i ∧ q.ρ i < w'.heap.size ∧ r.is q e.n' i w'.heap[q.ρ i]?
    rw [hn']
    rcases hgo i r hg hl with ⟨x, hx, rfl, rfl⟩ | ⟨hne, hgs⟩
    · obtain ⟨_, c, hg', hc⟩ := hnew x hx
      obtain ⟨h1, h2, h3, h4⟩ := h.rel.row x.1 _ hg' rfl
      exact ⟨h1, h2, h3, row_less hc h4⟩
    · have hil : s.live i := ⟨r, hgs, hl⟩
      obtain ⟨h1, h2, h3, h4⟩ := hr.row i r hgs hl
      have hq := hfits i h1
      rw [hq.2.1, kept i hil hne]
      exact ⟨hfits.has hle h1, h2, Nat.lt_of_lt_of_le h3 h.size, h4.fits hfits hle h1⟩
  · obtain ⟨ri, hgi, hli⟩ := hil
    obtain ⟨rj, hgj, hlj⟩ := hjl
    rcases hgo i ri hgi hli with ⟨x, hx, rfl, -⟩ | ⟨hne, hgs⟩ <;> rcases hgo j rj hgj hlj with ⟨y, hy, rfl, -⟩ | ⟨hne', hgs'⟩
    · exact h.rel.inj _ _ (hnew x hx).1 (hnew y hy).1 ej
    · have hjs : s.live j := ⟨rj, hgs', hlj⟩
      rw [(hfits j (hr.has hjs)).2.1] at ej
      exact absurd ej (moved j hjs hne' _ (hnew x hx).1)
    · have his : s.live i := ⟨ri, hgs, hli⟩
      rw [(hfits i (hr.has his)).2.1] at ej
      exact absurd ej.symm (moved i his hne _ (hnew y hy).1)
    · have his : s.live i := ⟨ri, hgs, hli⟩
      have hjs : s.live j := ⟨rj, hgs', hlj⟩
      rw [(hfits i (hr.has his)).2.1, (hfits j (hr.has hjs)).2.1] at ej
      exact hr.inj _ _ his hjs ej
  · obtain ⟨r, hg, hl⟩ := hil
    rcases hgo i r hg hl with ⟨x, hx, rfl, -⟩ | ⟨hne, hgs⟩
    · rcases h.new x.1 (by rw [hsn]; exact hi) (hnew x hx).1 with h1 | ⟨j, h1, h2, h3⟩
      · exact .inl h1
      · exact .inr ⟨j, by rw [hlo]; omega, (hel j h2).1, h3⟩
    · exact absurd (hr.lt ⟨r, hgs, hl⟩) (by omega)
  · obtain ⟨r, hg, hl⟩ := hil
    rcases hgo i r hg hl with ⟨x, hx, rfl, -⟩ | ⟨hne, hgs⟩
    · exact (hel _ (h.old x.1 (by rw [hsn]; exact hi) (hnew x hx).1)).1
    · exact ⟨r, hgs, hl⟩

theorem ent_fine {e : Ent} (he : EntOk P e) {f : FuncId} {args : List AV} {s : St} (h : e.fits f args s = true) : CallFine P f args s e.v (e.go s) := by
  obtain ⟨rfl, hn, rfl, hi⟩ := fits_parts h
  obtain ⟨s', hc, hn', hl', hi'⟩ := he
  intro B p w us n R hr hB hargs hR
  have hr0 : Rel B p e.s w := by
    have := rel_less (lo := big) hr hi
    unfold Ent.s; rw [hn]; exact this
  refine hc B p w us n R hr0 hB (by show AVL.is p e.n _ _; rw [hn]; exact hargs) fun q w' u hp hv => ?_
  refine hR q w' u (ent_post hi hn hn' hl' hi' hr hp) ?_
  show e.v.is q e.n' u
  rw [hn']; exact hv

theorem callO_fine {es : List Ent} (hes : ∀ e ∈ es, EntOk P e) {r : Run} (hr : RunFine P r) {f : FuncId} {args : List AV} {s s' : St} {o : Out} (h : xCallO P es r f args s = some (o, s')) : ∃ v, o = .val v ∧ CallFine P f args s v s' := by
  unfold xCallO at h
  split at h
  · exact call_fine hr h
  · split at h
    · rename_i e he
      injection h with h; injection h with h1 h2; subst h1 h2
      exact ⟨_, rfl, ent_fine (hes e (pick_fits he).1) (pick_fits he).2⟩
    · exact call_fine hr h

theorem execO_fine {es : List Ent} (hes : ∀ e ∈ es, EntOk P e) : ∀ (k : Nat), RunFine P (execO P es k) ∧ ∀ rd c fr s e fr' s', execO P es k (.code rd (.loop c) fr) s = some (.left e fr', s') → LoopFine P k rd c fr s e fr' s'
  | 0 => ⟨(fun t s o s' h => by cases h), (fun rd c fr s e fr' s' h => by cases h)⟩
  | k + 1 => by
    obtain ⟨ih, ihl⟩ := execO_fine hes k
    refine ⟨fun t s o s' h => ?_, fun rd c fr s e fr' s' h => ?_⟩
    · change xTaskO P es (execO P es k) t s = some (o, s') at h
      cases t with
      | code rd c fr => obtain ⟨e, fr', rfl, hx⟩ := code_fine ih ihl h; exact hx
      | ops rd all ops fr => obtain ⟨fr', rfl, hx⟩ := ops_fine ih h; exact ⟨rfl, hx⟩
      | call f args => obtain ⟨v, rfl, hx⟩ := callO_fine hes ih h; exact hx
      | round l args => obtain ⟨v, rfl, hx⟩ := round_fine ih h; exact hx
    · change xTaskO P es (execO P es k) (.code rd (.loop c) fr) s = some (.left e fr', s') at h
      obtain ⟨e', fr'', he, hx⟩ := loop_fine ih (fun fr s e fr' s' h => ihl rd _ fr s e fr' s' h) h
      injection he with he1 he2; subst he1 he2
      exact hx

/-- A run of its own proves an entry. -/
theorem entOk_of {es : List Ent} (hes : ∀ e ∈ es, EntOk P e) {k : Nat} {e : Ent} (h : chk e (execO P es k (.call e.f e.args) e.s) = true) : EntOk P e := by
  unfold chk at h
  split at h
  · rename_i v s' hx
    simp only [Bool.and_eq_true] at h
    obtain ⟨h1, h2, h3, h4⟩ := h
    have := (execO_fine hes k).1 _ _ _ _ hx
    rw [← eqV_eq h1] at this
    exact ⟨s', this, Nat.eq_of_beq_eq_true h2, Nat.eq_of_beq_eq_true h3, h4⟩
  · cases h
theorem entNone : ∀ e ∈ ([] : List Ent), EntOk P e := fun _ h => by cases h
theorem entCons {e : Ent} {es : List Ent} (h : EntOk P e) (hs : ∀ e ∈ es, EntOk P e) : ∀ x ∈ e :: es, EntOk P x := fun x hx => by
  rcases List.mem_cons.1 hx with rfl | hx
  · exact h
  · exact hs x hx

/-- A run from nothing gives a contract in whatever world. -/
theorem calls_of_execO {es : List Ent} (hes : ∀ e ∈ es, EntOk P e) {k : Nat} {f : FuncId} {v : AV} {s' : St} (h : execO P es k (.call f []) { h := .leaf, n := 8, lo := big } = some (.val v, s')) (w : World) :
    Calls P f #[] w fun e w' => ∃ q u, e = .returned u ∧ v.is q s'.n u ∧ Rel w.heap.size q s' w' ∧ w.heap.size ≤ w'.heap.size ∧ (∀ b, b < w.heap.size → w'.heap[b]? = w.heap[b]?) ∧ w'.os = w.os ∧ w'.tape = w.tape ∧ w'.output = w.output := by
  have hx := (execO_fine hes k).1 _ _ _ _ h
  have hrel : Rel w.heap.size Pl.start { h := .leaf, n := 8, lo := big } w :=
    ⟨(fun i r hi _ => by cases hi), (fun i j hi _ _ => by obtain ⟨r, hi, _⟩ := hi; cases hi), Nat.le_refl _⟩
  refine (callsIn_wide (n := 0)).1 (hx w.heap.size _ w #[] 0 _ hrel (Nat.le_refl _) trivial fun q w' u hp hu => ?_).2
  exact ⟨q, u, rfl, hu, hp.rel, hp.size, hp.below hrel (Nat.le_refl _), hp.os, hp.tape, hp.output⟩
end Go.Ax
