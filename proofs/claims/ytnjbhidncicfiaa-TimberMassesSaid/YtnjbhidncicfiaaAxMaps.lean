/- Each operation of a symbolic run is what the model does: maps. -/
import Derived.Test.YtnjbhidncicfiaaAxOps9
import Derived.MapKept
import GoSem.Instr.MapUpdate
import GoSem.Instr.Lookup
namespace Go.Ax
open Go

variable {P : Program} {B : Nat} {p : Pl} {s s' : St} {w : World} {fr : Fr} {a : Act} {v : AV}

theorem sameKey_run {d : TypeDesc} {x y : Sc} {b : Bool} (h : sameKey d x y = some b) {n : Nat} {u v : Value} (hx : x.is p n u) (hy : y.is p n v) :
    Instr.sameNow d u v = some b ∧ (b = true → u = v) := by
  unfold sameKey at h
  split at h
  · rw [show u = _ from hx, show v = _ from hy]
    split at h
    · rename_i e
      injection h with h; subst h; subst e
      refine ⟨by simp [Instr.sameNow, eqFI_eq], fun h => ?_⟩
      rw [eqFI_eq] at h; simp at h; rw [h]
    · cases h
  · rw [show u = _ from hx, show v = _ from hy]
    injection h with h; subst h
    rename_i a b
    have hb : (a == b) = bytesEq a.data.toList b.data.toList := by
      rw [bytesEq_eq]
      rw [Bool.eq_iff_iff, MapKept.bytes_beq]
      constructor
      · rintro rfl; simp
      · intro h; have h : a.data.toList = b.data.toList := by simpa using h
        cases a; cases b; simp at h; rw [h]
    refine ⟨by simp only [Instr.sameNow, hb], fun h => ?_⟩
    rw [← hb, MapKept.bytes_beq] at h; rw [h]
  · rw [show u = _ from hx, show v = _ from hy]
    injection h with h; subst h
    exact ⟨rfl, fun h => by simp at h; rw [h]⟩
  · cases h
theorem findKey_run {d : TypeDesc} {k : Sc} {n : Nat} {u : Value} (hk : k.is p n u) : ∀ {l : List (Sc × A1)} {us : List MapEntry} {i : Nat} {r : Option (Nat × A1)},
    findKey? d k l i = some r → EntL.is p n l us →
    (r = none ∧ Instr.findNow d u us i = some none) ∨ ∃ j x e, r = some (i + j, x) ∧ Instr.findNow d u us i = some (some (i + j, e.val)) ∧ us[j]? = some e ∧ u = e.key ∧ x.is p n e.val
  | [], [], i, r, h, _ => by injection h with h; exact .inl ⟨h.symm, rfl⟩
  | x :: l, e :: us, i, r, h, hs => by
    unfold findKey? at h
    split at h
    · rename_i hb
      injection h with h; subst h
      obtain ⟨h1, h2⟩ := sameKey_run hb hk hs.1
      exact .inr ⟨0, x.2, e, rfl, by simp [Instr.findNow, h1], rfl, h2 rfl, hs.2.1⟩
    · rename_i hb
      obtain ⟨h1, _⟩ := sameKey_run hb hk hs.1
      rcases findKey_run hk h hs.2.2 with ⟨h2, h3⟩ | ⟨j, x', e', h2, h3, h4, h5, h6⟩
      · exact .inl ⟨h2, by simp [Instr.findNow, h1, h3]⟩
      · refine .inr ⟨j + 1, x', e', by rw [h2]; simp; omega, by simp [Instr.findNow, h1, h3]; omega, by simpa using h4, h5, h6⟩
    · cases h
  | [], _ :: _, _, _, _, hs => hs.elim
  | _ :: _, [], _, _, _, hs => hs.elim
theorem plainKey_is {d : TypeDesc} {k : Sc} (h : plainKey d k = true) {n : Nat} {u : Value} (hk : k.is p n u) : MapKept.IsKey d u := by
  unfold plainKey at h
  split at h
  · rw [show u = _ from hk]; exact (of_decide_eq_true h : _ = _)
  · rw [show u = _ from hk]; trivial
  · rw [show u = _ from hk]; trivial
  · cases h
theorem entries_run (hr : Rel B p s w) {m : Sc} {es : List (Sc × A1)} (h : entriesOf s m = some es) {u : Value} (hm : m.is p s.n u) :
    (u = .map none ∧ es = []) ∨ ∃ i clock es', m = .mp i ∧ u = .map (some (p.ρ i)) ∧ s.h.get i = some (.map es clock) ∧ w.heap[p.ρ i]? = some (.map es' clock) ∧ EntL.is p s.n es es'.toList := by
  unfold entriesOf at h
  split at h
  · injection h with h; exact .inl ⟨hm, h.symm⟩
  · split at h
    · rename_i i _ es0 clock hg
      injection h with h; subst h
      obtain ⟨_, _, _, es', h1, h2⟩ := hr.row i _ hg rfl
      exact .inr ⟨i, clock, es', rfl, hm.2, hg, h1, h2⟩
    · cases h
  · cases h

theorem oMakeMap_sound (hr : Rel B p s w) (hB : B ≤ w.heap.size) {t : TypeId} {r : Option Operand} (h : oMakeMap s r = some (.val v, s')) :
    Fine P B p s w (do pure (.value (← Instr.makeMap t (r.map a.eval)))) v s' := by
  unfold oMakeMap at h
  split at h
  · rw [forceNat_eq] at h
    obtain ⟨rfl, rfl⟩ := pair_inj h
    refine ⟨_, _, _, .inl rfl, ?_, Post.new' hr hB (.map [] 0) (.map #[] 0) 0 ⟨#[], rfl, trivial⟩⟩
    refine ⟨p.set_has _ _ _ _ (by rw [St.new_n]; omega), by rw [p.set_ρ]⟩
  · cases h
theorem lookVal_is {n : Nat} {x : A1} {u : Value} (hx : x.is p n u) (ok b : Bool) : (lookVal ok x b).is p n (if ok = true then .tuple #[u, .bool b] else u) := by
  cases ok
  · exact hx
  · exact ⟨#[u, .bool b], rfl, hx, rfl, trivial⟩
theorem oLookup_sound (hr : Rel B p s w) (hf : fr.is p s.n a) {t : TypeId} {x y : Operand} {ok : Bool} (h : oLookup P s t (fr.eval x) (fr.eval y) ok = some (.val v, s')) :
    Fine P B p s w (do pure (.value (← Instr.lookup t (a.eval x) (a.eval y) ok))) v s' := by
  unfold oLookup at h
  split at h
  · rename_i kt et m k ht hx hy
    split at h
    · rename_i d es hd hes
      have hm := hf.eval hx
      have hk := hf.eval hy
      split at h
      · rename_i v0 hp hfd
        obtain ⟨rfl, rfl⟩ := pair_inj h
        rcases entries_run hr hes hm with ⟨hu, he⟩ | ⟨i, clock, es', hmi, hu, hg, hh, hE⟩
        · subst he; cases hfd
        · rcases findKey_run hk hfd hE with ⟨h1, _⟩ | ⟨j, x', e, h1, h2, h3, h4, h5⟩
          · cases h1
          · injection h1 with h1; injection h1 with h1 h1'; subst h1'
            refine Fine.quiet hr (u := if ok = true then .tuple #[e.val, .bool true] else e.val) ?_ (lookVal_is h5 ok true)
            rw [hu]
            simp only [Instr.lookup, Sem.run_bind, run_underlying' ht, Result.andThen_ok, MapKept.run_getObj_map hh, Sem.run_pure, MapKept.run_checkKey hd (plainKey_is hp hk) _ 9999, MapKept.run_findKey hd h2]
            try (cases ok <;> rfl)
      · rename_i hp hfd
        split at h
        · rename_i z hz
          obtain ⟨rfl, rfl⟩ := pair_inj h
          obtain ⟨uz, hz1, hz2⟩ := run_zero hz w p s.n
          refine Fine.quiet hr (u := if ok = true then .tuple #[uz, .bool false] else uz) ?_ (lookVal_is hz2 ok false)
          rcases entries_run hr hes hm with ⟨hu, he⟩ | ⟨i, clock, es', hmi, hu, hg, hh, hE⟩
          · rw [hu]
            have h2 : Instr.findNow d (a.eval y) [] 0 = some none := rfl
            simp only [Instr.lookup, Sem.run_bind, run_underlying' ht, Result.andThen_ok, Sem.run_pure, MapKept.run_checkKey hd (plainKey_is hp hk) _ 9999, MapKept.run_findKey hd h2, hz1]
            try (cases ok <;> rfl)
          · rcases findKey_run hk hfd hE with ⟨_, h2⟩ | ⟨j, x', e, h1, _⟩
            · rw [hu]
              simp only [Instr.lookup, Sem.run_bind, run_underlying' ht, Result.andThen_ok, MapKept.run_getObj_map hh, Sem.run_pure, MapKept.run_checkKey hd (plainKey_is hp hk) _ 9999, MapKept.run_findKey hd h2, hz1]
              try (cases ok <;> rfl)
            · cases h1
        · cases h
      · cases h
    · cases h
  · cases h
theorem sameBits_self {d : TypeDesc} {u : Value} (h : MapKept.IsKey d u) : Instr.sameBits 10000 u u = true := by
  cases d <;> cases u <;> simp_all [MapKept.IsKey, Instr.sameBits]
  exact (MapKept.bytes_beq _ _).2 rfl
theorem mapWrite (hr : Rel B p s w) {i : Nat} {es new : List (Sc × A1)} {clock clock' : Nat} {es' new' : Array MapEntry} (hg : s.h.get i = some (.map es clock)) (hh : w.heap[p.ρ i]? = some (.map es' clock))
    (hn : EntL.is p s.n new new'.toList) : Post B p s w p (s.put i (.map new clock')) { w with heap := w.heap.setIfInBounds (p.ρ i) (.map new' clock') } := by
  obtain ⟨h1, h2⟩ := MapKept.heap_set (o' := .map new' clock') hh
  exact Post.write hr ⟨_, hg, rfl⟩ _ (by simp) ⟨new', h1, hn⟩ h2 rfl rfl rfl
theorem oMapUpdate_sound (hr : Rel B p s w) (hf : fr.is p s.n a) {t : TypeId} {x y z : Operand} (h : oMapUpdate P s t (fr.eval x) (fr.eval y) (fr.eval z) = some (.val v, s')) :
    Fine P B p s w (do Instr.mapUpdate t (a.eval x) (a.eval y) (a.eval z); pure .skip) v s' := by
  unfold oMapUpdate at h
  split at h
  · rename_i kt et i k v0 ht hx hy hz
    split at h
    · rename_i d es clock hd hg
      have hm := hf.eval hx
      have hk := hf.eval hy
      have hv := hf.eval hz
      obtain ⟨_, _, _, es', hh, hE⟩ := hr.row i _ hg rfl
      split at h
      · rename_i j v1 hp hfd
        obtain ⟨rfl, rfl⟩ := pair_inj h
        rcases findKey_run hk hfd hE with ⟨h1, _⟩ | ⟨j', x', e, h1, h2, h3, h4, h5⟩
        · cases h1
        · injection h1 with h1; injection h1 with h1 h1'; subst h1'
          have hj : j = j' := by omega
          subst hj
          have hge : es'[j]? = some e := by rw [← Array.getElem?_toList]; exact h3
          refine ⟨undef, p, _, .inr ⟨?_, rfl⟩, AV.undef_is _ _, mapWrite (new' := es'.set! j { e with key := a.eval y, val := a.eval z }) hr hg hh ?_⟩
          · rw [hm.2]
            simp only [Instr.mapUpdate, Sem.run_bind, run_underlying' ht, Result.andThen_ok, MapKept.run_getObj_map hh, MapKept.run_checkKey hd (plainKey_is hp hk) _ 9999, MapKept.run_findKey hd h2]
            simp only [Nat.zero_add, hge, Option.map_some, Option.getD_some, Instr.keyThatStays, ← h4, sameBits_self (plainKey_is hp hk), if_true, Sem.run_pure, Result.andThen_ok, MapKept.run_setObj_map _ hh]
            congr 4
            apply Array.ext_getElem?
            intro m
            rw [Array.getElem?_modify]
            simp only [Array.set!_eq_setIfInBounds, Array.getElem?_setIfInBounds]
            by_cases hjm : j = m
            · subst hjm
              have := (Array.getElem?_eq_some_iff.1 hge).1
              rw [if_pos rfl, if_pos rfl, hge, if_pos this]; rfl
            · rw [if_neg hjm, if_neg hjm]
          · rw [Array.set!_eq_setIfInBounds, Array.toList_setIfInBounds]
            exact EntL.is.set (x := (k, v0)) (e := { e with key := a.eval y, val := a.eval z }) hk hv j hE
      · rename_i hp hfd
        rw [forceNat_eq] at h
        obtain ⟨rfl, rfl⟩ := pair_inj h
        rcases findKey_run hk hfd hE with ⟨_, h2⟩ | ⟨j, x', e, h1, _⟩
        · refine ⟨undef, p, _, .inr ⟨?_, rfl⟩, AV.undef_is _ _, mapWrite (new' := es'.push { key := a.eval y, val := a.eval z, born := clock }) hr hg hh ?_⟩
          · rw [hm.2]
            simp only [Instr.mapUpdate, Sem.run_bind, run_underlying' ht, Result.andThen_ok, MapKept.run_getObj_map hh, MapKept.run_checkKey hd (plainKey_is hp hk) _ 9999, MapKept.run_findKey hd h2, MapKept.run_setObj_map _ hh]
            rfl
          · rw [Array.toList_push]; exact EntL.is.snoc (x := (k, v0)) (e := { key := a.eval y, val := a.eval z, born := clock }) hk hv hE
        · cases h1
      · cases h
    · cases h
  · cases h

end Go.Ax
