/- Each operation of a symbolic run is what the model does, tenth part: the other builtins; all operations together. -/
import Derived.Test.YtnjbhidncicfiaaAxMaps
namespace Go.Ax
open Go

variable {P : Program} {B : Nat} {p : Pl} {s s' : St} {w : World} {fr : Fr} {a : Act} {v : AV}

def AVL.is (p : Pl) (n : Nat) : List AV → List Value → Prop
  | [], [] => True
  | x :: t, v :: u => x.is p n v ∧ AVL.is p n t u
  | _, _ => False
theorem evals_list (hf : fr.is p s.n a) : ∀ {l : List Operand} {vs : List AV}, evals fr l = some vs → AVL.is p s.n vs (l.map a.eval)
  | [], vs, h => by injection h with h; subst h; trivial
  | x :: t, vs, h => by
    unfold evals at h
    split at h
    · rename_i v l hv hl
      injection h with h; subst h
      exact ⟨hf.eval hv, evals_list hf hl⟩
    · cases h
theorem AVL.is.length {n : Nat} : ∀ {l : List AV} {u : List Value}, AVL.is p n l u → u.length = l.length
  | [], [], _ => rfl
  | _ :: _, _ :: _, h => by simp [AVL.is.length h.2]
  | [], _ :: _, h => h.elim
  | _ :: _, [], h => h.elim

theorem most_sound {n : Nat} (k : IntKind) (up : Bool) (w : World) : ∀ {l : List AV} {us : List Value} {x m : Int}, most up x l = some m → AVL.is p n l us →
    (us.foldlM (if up then Builtin.max2 else Builtin.min2) (.int k x)).run P w = .ok (.int k m) w
  | [], [], x, m, h, _ => by injection h with h; subst h; simp
  | y :: l, u :: us, x, m, h, hl => by
    unfold most at h
    split at h
    · rename_i h1; cases h1
    · rename_i k' z t h1
      injection h1 with h1 h2; subst h1 h2
      rw [show u = _ from hl.1]
      rw [List.foldlM_cons, Sem.run_bind]
      cases up
      · have := most_sound k false w h hl.2
        simpa [Builtin.min2] using this
      · have := most_sound k true w h hl.2
        simpa [Builtin.max2] using this
    · cases h
  | [], _ :: _, _, _, _, h => h.elim
  | _ :: _, [], _, _, _, h => h.elim

theorem args1 {n : Nat} {x : AV} {us : Array Value} (h : AVL.is p n [x] us.toList) : ∃ u, us = #[u] ∧ x.is p n u := by
  match us, h with
  | ⟨[u]⟩, h => exact ⟨u, rfl, h.1⟩
  | ⟨[]⟩, h => exact h.elim
  | ⟨_ :: _ :: _⟩, h => exact h.2.elim
theorem args2 {n : Nat} {x y : AV} {us : Array Value} (h : AVL.is p n [x, y] us.toList) : ∃ u v, us = #[u, v] ∧ x.is p n u ∧ y.is p n v := by
  match us, h with
  | ⟨[u, v]⟩, h => exact ⟨u, v, rfl, h.1, h.2.1⟩
  | ⟨[]⟩, h => exact h.elim
  | ⟨[_]⟩, h => exact h.2.elim
  | ⟨_ :: _ :: _ :: _⟩, h => exact h.2.2.elim

theorem zeroCells_is {n : Nat} {z : List Sc} {u : Value} (h : ScL.is p n z u.cells.toList) (k : Nat) : ScL.is p n (repeatCells z k) (Builtin.zeroCells u.cells k).toList := by
  have hl := h.length
  simp only [Array.length_toList] at hl
  exact zeros_is h k _ (by rw [hl])

theorem builtin_sound (hr : Rel B p s w) (hB : B ≤ w.heap.size) {b : Builtin} {ts : Array TypeId} {args : List AV} {us : Array Value} (ha : AVL.is p s.n args us.toList) (h : builtin? P b ts.toList args s = some (v, s')) (ty : TypeId) (cs : Array Bool) :
    Fine P B p s w (builtin b ts ty cs us) v s' := by
  unfold builtin? at h
  split at h
  · -- len of a slice, a string, an array behind a pointer or a value
    rename_i t x hts
    have hts : ts = #[t] := by cases ts; simp at hts; simp [hts]
    subst hts
    obtain ⟨u, rfl, hu⟩ := args1 ha
    refine BFine.fine (x := Builtin.len_ #[t] ty #[u]) ?_
    split at h
    · rename_i e ht
      rw [Option.map_eq_some_iff] at h
      obtain ⟨n, hn, h⟩ := h
      injection h with h1 h2; subst h1 h2
      refine BFine.quiet hr (u := .int .i64 n) ?_ rfl
      unfold lenOf? at hn
      split at hn
      · injection hn with hn; subst hn; rw [show u = _ from hu]; simp [Builtin.len_, run_underlying' ht, goInt]
      · injection hn with hn; subst hn; rw [show u = _ from hu.2.2]; simp [Builtin.len_, run_underlying' ht, goInt]
      · injection hn with hn; subst hn; obtain ⟨_, c, _, _, rfl⟩ := hu; simp [Builtin.len_, run_underlying' ht, goInt]
      · cases hn
    · rename_i ht
      split at h
      · injection h with h; injection h with h1 h2; subst h1 h2
        rw [show u = _ from hu]
        exact BFine.quiet hr (by simp [Builtin.len_, run_underlying' ht, goInt]) rfl
      · cases h
    · rename_i n e ht
      injection h with h; injection h with h1 h2; subst h1 h2
      exact BFine.quiet hr (u := .int .i64 n) (by simp [Builtin.len_, run_underlying' ht, goInt]) rfl
    · rename_i k e ht
      rw [Option.map_eq_some_iff] at h
      obtain ⟨es, hes, h⟩ := h
      injection h with h1 h2; subst h1 h2
      refine BFine.quiet hr (u := .int .i64 es.length) ?_ rfl
      rcases entries_run hr hes hu with ⟨hu, he⟩ | ⟨i, clock, es', hmi, hu, hg, hh, hE⟩
      · rw [hu, he]; simp [Builtin.len_, run_underlying' ht, goInt]
      · rw [hu]; simp [Builtin.len_, run_underlying' ht, goInt, MapKept.run_getObj_map hh, ← hE.length]
    · cases h
  · rename_i t l hts
    have hts : ts = #[t] := by cases ts; simp at hts; simp [hts]
    subst hts
    obtain ⟨u, rfl, hu⟩ := args1 ha
    refine BFine.fine (x := Builtin.len_ #[t] ty #[u]) ?_
    split at h
    · rename_i n e ht
      injection h with h; injection h with h1 h2; subst h1 h2
      exact BFine.quiet hr (u := .int .i64 n) (by simp [Builtin.len_, run_underlying' ht, goInt]) rfl
    · cases h
  · rename_i t x hts
    have hts : ts = #[t] := by cases ts; simp at hts; simp [hts]
    subst hts
    obtain ⟨u, rfl, hu⟩ := args1 ha
    refine BFine.fine (x := Builtin.cap_ #[t] ty #[u]) ?_
    split at h
    · rename_i ht
      injection h with h; injection h with h1 h2; subst h1 h2
      rw [show u = _ from hu]
      exact BFine.quiet hr (u := .int .i64 0) (by simp [Builtin.cap_, run_underlying' ht, goInt]) rfl
    · rename_i c ht
      injection h with h; injection h with h1 h2; subst h1 h2
      rw [show u = _ from hu.2.2]
      exact BFine.quiet hr (u := .int .i64 c) (by simp [Builtin.cap_, run_underlying' ht, goInt]) rfl
    · cases h
  · rename_i k x rest
    rw [Option.map_eq_some_iff] at h
    obtain ⟨m, hm, h⟩ := h
    injection h with h1 h2; subst h1 h2
    refine BFine.fine (x := Builtin.max_ ts ty us) (BFine.quiet hr (u := .int k m) ?_ rfl)
    match us, ha with
    | ⟨[]⟩, ha => exact ha.elim
    | ⟨u :: us⟩, ha =>
      have := most_sound (P := P) k true w hm ha.2
      rw [show u = _ from ha.1]
      simpa [Builtin.max_] using this
  · rename_i k x rest
    rw [Option.map_eq_some_iff] at h
    obtain ⟨m, hm, h⟩ := h
    injection h with h1 h2; subst h1 h2
    refine BFine.fine (x := Builtin.min_ ts ty us) (BFine.quiet hr (u := .int k m) ?_ rfl)
    match us, ha with
    | ⟨[]⟩, ha => exact ha.elim
    | ⟨u :: us⟩, ha =>
      have := most_sound (P := P) k false w hm ha.2
      rw [show u = _ from ha.1]
      simpa [Builtin.min_] using this
  · rename_i t r x y hts
    have hts : ts = (t :: r).toArray := by cases ts; simp at hts; simp [hts]
    subst hts
    obtain ⟨u, u', rfl, hu, hu'⟩ := args2 ha
    refine BFine.fine (x := Builtin.append_ (t :: r).toArray ty #[u, u']) ?_
    split at h
    · rename_i z s1 hz
      injection h with h; injection h with h1 h2; subst h1 h2
      exact append_sound hr hB hu hu' hz
    · cases h
  · rename_i t r x y hts
    have h0 : ts[0]? = some t := by cases ts; simp at hts; simp [hts]
    obtain ⟨u, u', rfl, hu, hu'⟩ := args2 ha
    refine BFine.fine (x := Builtin.copy_ ts ty #[u, u']) ?_
    have h1 : (#[u, u'] : Array Value)[0]? = some u := rfl
    have h2 : (#[u, u'] : Array Value)[1]? = some u' := rfl
    split at h
    · rename_i e xl yl ht hxl hyl
      have hn := lenOf_run (P := P) hyl hu' w
      split at h
      · rename_i size hsz
        split at h
        · rename_i new i o l' c' hnew
          obtain ⟨vs, hvs, hvi⟩ := firstOf_run (P := P) hr hnew hu'
          rw [Option.map_eq_some_iff] at h
          obtain ⟨s1, hs1, h⟩ := h
          injection h with h1 h2; subst h1 h2
          unfold lenOf? at hxl; injection hxl with hxl; subst hxl
          obtain ⟨w', hrun, hpost⟩ := rowPut_sound (P := P) hr hs1 hvi
          rw [show u = _ from hu.2.2]
          refine ⟨.int .i64 (Nat.min yl l'), p, w', ?_, rfl, hpost⟩
          simp only [Builtin.copy_, h0, Sem.run_bind, run_underlying' ht, Result.andThen_ok, hn, run_sizeOf hsz, hvs w rfl, hrun, List.getElem?_toArray, List.getElem?_cons_zero, List.getElem?_cons_succ, Sem.run_pure, goInt]
        · rename_i new i o l' c' hnew
          obtain ⟨vs, hvs, hvi⟩ := firstOf_run (P := P) hr hnew hu'
          rw [Option.map_eq_some_iff] at h
          obtain ⟨s1, hs1, h⟩ := h
          injection h with h1 h2; subst h1 h2
          unfold lenOf? at hxl; injection hxl with hxl; subst hxl
          obtain ⟨w', hrun, hpost⟩ := rowPut_sound (P := P) hr hs1 hvi
          obtain ⟨_, cc, _, _, rfl⟩ := hu
          refine ⟨.int .i64 (Nat.min yl l'), p, w', ?_, rfl, hpost⟩
          simp only [Builtin.copy_, h0, Sem.run_bind, run_underlying' ht, Result.andThen_ok, hn, run_sizeOf hsz, hvs w rfl, hrun, List.getElem?_toArray, List.getElem?_cons_zero, List.getElem?_cons_succ, Sem.run_pure, goInt]
        · rename_i new hnew
          obtain ⟨vs, hvs, hvi⟩ := firstOf_run (P := P) hr hnew hu'
          injection h with h; injection h with h1 h2; subst h1 h2
          unfold lenOf? at hxl; injection hxl with hxl; subst hxl
          rw [show u = _ from hu]
          refine BFine.quiet hr (u := .int .i64 0) ?_ rfl
          have h00 : Nat.min yl 0 = 0 := Nat.min_zero yl
          have hvs0 := hvs w rfl
          rw [h00] at hvs0
          simp only [Builtin.copy_, h0, Sem.run_bind, run_underlying' ht, Result.andThen_ok, hn, run_sizeOf hsz, h00, hvs0, List.getElem?_toArray, List.getElem?_cons_zero, List.getElem?_cons_succ, Sem.run_pure, goInt]
          rfl
        · cases h
      · cases h
    · cases h
  · rename_i t x hts
    have hts : ts = #[t] := by cases ts; simp at hts; simp [hts]
    subst hts
    obtain ⟨u, rfl, hu⟩ := args1 ha
    refine BFine.fine (x := Builtin.clear_ #[t] ty #[u]) ?_
    split at h
    · rename_i ht
      injection h with h; injection h with h1 h2; subst h1 h2
      rw [show u = _ from hu]
      exact BFine.quiet hr (u := Go.undef) (by simp [Builtin.clear_, run_underlying' ht, Go.undef]) (AV.undef_is _ _)
    · rename_i e i o n c' ht
      split at h
      · rename_i hn0
        have hn0 := Nat.eq_of_beq_eq_true hn0
        subst hn0
        injection h with h; injection h with h1 h2; subst h1 h2
        rw [show u = _ from hu.2.2]
        exact BFine.quiet hr (u := Go.undef) (by simp [Builtin.clear_, run_underlying' ht, Go.undef]) (AV.undef_is _ _)
      · rename_i z hn0 hz
        have hn0 : n ≠ 0 := fun e => by subst e; cases hn0
        rw [Option.map_eq_some_iff] at h
        obtain ⟨s1, hs1, h⟩ := h
        injection h with h1 h2; subst h1 h2
        obtain ⟨zu, hzu, hzi⟩ := zeroAnywhere hz p s.n
        obtain ⟨w', hrun, hpost⟩ := rowPut_sound (P := P) hr hs1 (zeroCells_is hzi n)
        rw [show u = _ from hu.2.2]
        refine ⟨Go.undef, p, w', ?_, AV.undef_is _ _, hpost⟩
        obtain ⟨m, rfl⟩ : ∃ m, n = m + 1 := ⟨n - 1, by omega⟩
        simp [Builtin.clear_, run_underlying' ht, hzu, hrun, Go.undef]
      · cases h
    · rename_i e i o n c' ht
      split at h
      · rename_i hn0
        have hn0 := Nat.eq_of_beq_eq_true hn0
        subst hn0
        injection h with h; injection h with h1 h2; subst h1 h2
        obtain ⟨_, cc, _, _, rfl⟩ := hu
        exact BFine.quiet hr (u := Go.undef) (by simp [Builtin.clear_, run_underlying' ht, Go.undef]) (AV.undef_is _ _)
      · rename_i z hn0 hz
        have hn0 : n ≠ 0 := fun e => by subst e; cases hn0
        rw [Option.map_eq_some_iff] at h
        obtain ⟨s1, hs1, h⟩ := h
        injection h with h1 h2; subst h1 h2
        obtain ⟨zu, hzu, hzi⟩ := zeroAnywhere hz p s.n
        obtain ⟨w', hrun, hpost⟩ := rowPut_sound (P := P) hr hs1 (zeroCells_is hzi n)
        obtain ⟨_, cc, _, _, rfl⟩ := hu
        refine ⟨Go.undef, p, w', ?_, AV.undef_is _ _, hpost⟩
        obtain ⟨m, rfl⟩ : ∃ m, n = m + 1 := ⟨n - 1, by omega⟩
        simp [Builtin.clear_, run_underlying' ht, hzu, hrun, Go.undef]
      · cases h
    · cases h
  · cases h

end Go.Ax
