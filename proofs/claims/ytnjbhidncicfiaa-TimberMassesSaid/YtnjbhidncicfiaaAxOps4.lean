/- Each operation of a symbolic run is what the model does, fourth part: memory and addresses. -/
import Derived.Test.YtnjbhidncicfiaaAxOps3
namespace Go.Ax
open Go

variable {P : Program} {B : Nat} {p : Pl} {s s' : St} {w : World} {fr : Fr} {a : Act} {v : AV}

theorem rowPut_sound (hr : Rel B p s w) {i o : Nat} {new : List Sc} (h : rowPut s i o new = some s') {vs : List Value} (hnew : ScL.is p s.n new vs) :
    ∃ w', (storeCells ⟨p.ρ i, o, none⟩ vs).run P w = .ok () w' ∧ Post B p s w p s' w' := by
  unfold rowPut at h
  split at h
  · rename_i hg
    split at h
    · rename_i hle
      injection h with h; subst h
      exact put_sound hr hg hnew (Nat.le_of_ble_eq_true hle)
    · cases h
  · cases h
theorem rowRange_sound (hr : Rel B p s w) {i o n : Nat} {l : List Sc} (h : rowRange s i o n = some l) :
    ∃ vs : List Value, (∀ w' : World, w'.heap = w.heap → (loadCells ⟨p.ρ i, o, none⟩ n).run P w' = .ok vs.toArray w') ∧ ScL.is p s.n l vs := by
  unfold rowRange at h
  split at h
  · rename_i hg
    obtain ⟨_, cs, hcs, _, _, _, _, hc⟩ := hr.cells hg
    obtain ⟨vs, h1, h2, h3⟩ := range_sound hc n o l h
    exact ⟨vs, fun w' hw' => run_loadRange (by rw [hw']; exact hcs) h3 h1, h2⟩
  · cases h

theorem oStore_sound (hr : Rel B p s w) (hf : fr.is p s.n a) {t : TypeId} {x y : Operand} (h : oStore P s t (fr.eval x) (fr.eval y) = some (.val v, s')) :
    Fine P B p s w (do Instr.storeAt t (a.eval x) (a.eval y); pure .skip) v s' := by
  unfold oStore at h
  split at h
  · rename_i i o z hx hy
    rw [Option.map_eq_some_iff] at h
    obtain ⟨s1, hs1, h⟩ := h
    injection h with h1 h2; injection h1 with h1; subst h1 h2
    unfold storeAt at hs1
    split at hs1
    · rename_i e ex len c n hg hn
      split at hs1
      · rename_i hlen hle
        injection hs1 with hs1; subst hs1
        have hlen := Nat.eq_of_beq_eq_true hlen
        have hle := Nat.le_of_ble_eq_true hle
        have hz := A1.is.cells (hf.eval hy)
        obtain ⟨w', hrun, hpost⟩ := put_sound (P := P) (o := o) hr hg hz (by omega)
        refine ⟨_, p, w', .inr ⟨?_, rfl⟩, AV.undef_is _ _, hpost⟩
        rw [show a.eval x = _ from (hf.eval hx).2]
        have hsz : (a.eval y).cells.size = n := by rw [← hlen, ← hz.length]; simp
        simp [Instr.storeAt, Instr.sureAddr, Pl.at, storeVar, run_sizeOf hn, hsz, hrun]
      · cases hs1
    · cases hs1
  · cases h

theorem repeat_is {n : Nat} {z : List Sc} {u : Value} (h : ScL.is p n z u.cells.toList) : ∀ k, ScL.is p n (repeatCells z k) ((List.replicate k u.cells.toList).flatten)
  | 0 => trivial
  | k + 1 => by
    rw [List.replicate_succ, List.flatten_cons]
    exact ScL.is.append h (repeat_is h k)

/-! ### build -/
theorem ScL.is.set {n : Nat} : ∀ {l : List Sc} {u : List Value} (j : Nat) {x : Sc} {y : Value}, ScL.is p n l u → x.is p n y → ScL.is p n (lset l j x) (u.set j y)
  | [], [], j, _, _, _, _ => by cases j <;> trivial
  | _ :: _, _ :: _, 0, _, _, h, hx => ⟨hx, h.2⟩
  | _ :: _, _ :: _, j + 1, _, _, h, hx => ⟨h.1, ScL.is.set j h.2 hx⟩
  | [], _ :: _, _, _, _, h, _ => h.elim
  | _ :: _, [], _, _, _, h, _ => h.elim
theorem fold_is {n : Nat} (off : Nat) : ∀ {new : List Sc} {vs : List Value} {l : List Sc} {cs : Array Value} (k : Nat), ScL.is p n new vs → ScL.is p n l cs.toList →
    ScL.is p n (lsets l (off + k) new) ((vs.zipIdx k).foldl (fun cs (c, j) => cs.setIfInBounds (off + j) c) cs).toList
  | [], [], l, cs, k, _, h => h
  | x :: new, y :: vs, l, cs, k, hn, h => by
    rw [List.zipIdx_cons, List.foldl_cons]
    unfold lsets
    rw [show off + k + 1 = off + (k + 1) from by omega]
    exact fold_is off (k + 1) hn.2 (by rw [Array.toList_setIfInBounds]; exact ScL.is.set _ h hn.1)
  | [], _ :: _, _, _, _, h, _ => h.elim
  | _ :: _, [], _, _, _, h, _ => h.elim
theorem fillAt_sound {n : Nat} {size off : Nat} {l l' : List Sc} {x : A1} (h : fillAt size l off x = some l') {cs : Array Value} {u : Value} (hl : ScL.is p n l cs.toList) (hx : x.is p n u) :
    ¬ (u.cells.size ≠ size ∨ off + u.cells.size > cs.size) ∧ ScL.is p n l' (u.cells.zipIdx.foldl (fun cs (c, j) => cs.setIfInBounds (off + j) c) cs).toList := by
  unfold fillAt at h
  simp only at h
  split at h
  · rename_i hc
    injection h with h; subst h
    have hx := hx.cells
    have h1 := hx.length
    have h2 := hl.length
    simp only [Array.length_toList] at h1 h2
    refine ⟨by omega, ?_⟩
    have := fold_is (p := p) (n := n) off 0 hx hl
    rw [← Array.foldl_toList, Array.toList_zipIdx]
    exact this
  · cases h
theorem fill_cons {place : Nat → Option (Nat × Nat)} {cells : Array Value} {i : Nat} {u : Value} {rest : List (Nat × Value)} {off size : Nat} (h : place i = some (off, size)) (hc : ¬ (u.cells.size ≠ size ∨ off + u.cells.size > cells.size)) :
    Instr.fill place cells ((i, u) :: rest) = Instr.fill place (u.cells.zipIdx.foldl (fun cs (c, j) => cs.setIfInBounds (off + j) c) cells) rest := by
  have : (u.cells.size ≠ size || off + u.cells.size > cells.size) = false := by
    rw [Bool.eq_false_iff]; intro e; apply hc; simpa using e
  simp only [Instr.fill, h]
  rw [if_neg (by rw [this]; simp)]
theorem fillArr_sound (hf : fr.is p s.n a) {size : Nat} : ∀ {ps : List (Nat × Operand)} {l l' : List Sc} {cs : Array Value}, fillArr size fr l ps = some l' → ScL.is p s.n l cs.toList →
    ∃ cs', Instr.fill (fun i => some (i * size, size)) cs (ps.map fun (i, x) => (i, a.eval x)) = some cs' ∧ ScL.is p s.n l' cs'.toList
  | [], l, l', cs, h, hl => by injection h with h; subst h; exact ⟨cs, rfl, hl⟩
  | (i, x) :: t, l, l', cs, h, hl => by
    unfold fillArr at h
    split at h
    · rename_i z hz
      split at h
      · rename_i l1 hl1
        obtain ⟨h1, h2⟩ := fillAt_sound hl1 hl (hf.eval hz)
        rw [List.map_cons, fill_cons rfl h1]
        exact fillArr_sound hf h h2
      · cases h
    · cases h
theorem fillStruct_sound (hf : fr.is p s.n a) {pl : List (Nat × Nat)} :
    ∀ {ps : List (Nat × Operand)} {l l' : List Sc} {cs : Array Value}, fillStruct pl fr l ps = some l' → ScL.is p s.n l cs.toList →
    ∃ cs', Instr.fill (fun i => pl[i]?) cs (ps.map fun (i, x) => (i, a.eval x)) = some cs' ∧ ScL.is p s.n l' cs'.toList
  | [], l, l', cs, h, hl => by injection h with h; subst h; exact ⟨cs, rfl, hl⟩
  | (i, x) :: t, l, l', cs, h, hl => by
    unfold fillStruct at h
    split at h
    · rename_i z off size hz hfi
      rw [lget_eq] at hfi
      split at h
      · rename_i l1 hl1
        obtain ⟨h1, h2⟩ := fillAt_sound hl1 hl (hf.eval hz)
        rw [List.map_cons, fill_cons (by simpa using hfi) h1]
        exact fillStruct_sound hf h h2
      · cases h
    · cases h
theorem run_placesOf (w : World) : ∀ {fs : List Field} {pl : List (Nat × Nat)}, placesOf P fs = some pl → (fs.mapM fun f => Prod.mk f.offset <$> sizeOf f.type).run P w = .ok pl w
  | [], pl, h => by injection h with h; subst h; simp
  | f :: t, pl, h => by
    unfold placesOf at h
    split at h
    · rename_i n l hn hl
      injection h with h; subst h
      simp [List.mapM_cons, run_sizeOf hn, run_placesOf w hl]
    · cases h
theorem oBuild_sound (hr : Rel B p s w) (hf : fr.is p s.n a) {t : TypeId} {ps : Array (Nat × Operand)} (h : oBuild P fr s t ps.toList = some (.val v, s')) :
    Fine P B p s w (do pure (.value (← Instr.build t (ps.map fun (i, x) => (i, a.eval x))))) v s' := by
  unfold oBuild at h
  split at h
  · rename_i z fs hz hu
    split at h
    · rename_i pl hpl
      obtain ⟨c, hc, rfl, rfl⟩ := map_inj h
      obtain ⟨u, hu', hzu⟩ := run_zero hz w p s.n
      obtain ⟨cs', h1, h2⟩ := fillStruct_sound hf hc hzu.cells
      refine Fine.quiet hr (u := .agg cs') ?_ ⟨cs', rfl, h2⟩
      have hm := run_placesOf (P := P) w hpl
      simp [Instr.build, hu', run_underlying' hu, Array.mapM_eq_mapM_toList, hm, h1]
    · cases h
  · rename_i z n e hz hu
    split at h
    · rename_i size hsz
      obtain ⟨c, hc, rfl, rfl⟩ := map_inj h
      obtain ⟨u, hu', hzu⟩ := run_zero hz w p s.n
      obtain ⟨cs', h1, h2⟩ := fillArr_sound hf hc hzu.cells
      refine Fine.quiet hr (u := .agg cs') ?_ ⟨cs', rfl, h2⟩
      simp [Instr.build, hu', run_underlying' hu, run_sizeOf hsz, h1]
    · cases h
  · cases h

/-! ### addresses -/
theorem size_pos {t : TypeId} {n : Nat} (h : sizeOf? P t = some (n + 1)) (w : World) (b o : Nat) (f : Field) (hf : f.type = t) : (fieldPlace ⟨b, o, none⟩ f).run P w = .ok ⟨b, o + f.offset, none⟩ w := by
  subst hf
  simp [fieldPlace, run_sizeOf h, addr_add]
theorem oFieldAddr_sound (hr : Rel B p s w) (hf : fr.is p s.n a) {t : TypeId} {x : Operand} {f : Nat} (h : oFieldAddr P s t (fr.eval x) f = some (.val v, s')) :
    Fine P B p s w (do pure (.value (← Instr.fieldAt t (a.eval x) f))) v s' := by
  unfold oFieldAddr at h
  split at h
  · rename_i fs i o hu hx
    split at h
    · rename_i fd hfd
      rw [lget_eq] at hfd
      split at h
      · rename_i n hn
        rw [forceNat_eq] at h
        obtain ⟨rfl, rfl⟩ := pair_inj h
        have hx := hf.eval hx
        rw [show a.eval x = _ from hx.2]
        have hfd : fs[f]? = some fd := by simpa using hfd
        exact Fine.quiet hr (u := p.at i (o + fd.offset)) (by simp [Instr.fieldAt, run_underlying' hu, hfd, Instr.sureAddr, Pl.at, size_pos hn]) ⟨hx.1, rfl⟩
      · cases h
    · cases h
  · cases h
theorem oField_sound (hr : Rel B p s w) (hf : fr.is p s.n a) {t : TypeId} {x : Operand} {f : Nat} (h : oField P s t (fr.eval x) f = some (.val v, s')) :
    Fine P B p s w (do pure (.value (← Instr.field t (a.eval x) f))) v s' := by
  unfold oField at h
  split at h
  · rename_i fs c hu hx
    obtain ⟨cs, hx, hcs⟩ := hf.eval hx
    split at h
    · rename_i fd hfd
      rw [lget_eq] at hfd
      have hfd : fs[f]? = some fd := by simpa using hfd
      split at h
      · rename_i n ha hn
        split at h
        · obtain ⟨rfl, rfl⟩ := pair_inj h
          rw [hx]
          refine Fine.quiet hr (u := .agg (cs.extract fd.offset (fd.offset + n))) ?_ ⟨_, rfl, lslice_is hcs _ _⟩
          simp [Instr.field, run_underlying' hu, hfd, asAgg, part, run_isAgg ha, run_sizeOf hn]
        · cases h
      · rename_i ha
        obtain ⟨c', hc', rfl, rfl⟩ := map_inj h
        rw [lget_eq] at hc'
        obtain ⟨u, hu', hcu⟩ := hcs.get _ _ hc'
        have hu' : cs[fd.offset]? = some u := by simpa using hu'
        rw [hx]
        refine Fine.quiet hr (u := u) ?_ hcu
        simp [Instr.field, run_underlying' hu, hfd, asAgg, part, run_isAgg ha, hu']
      · cases h
    · cases h
  · cases h
theorem oIndexAddr_sound (hr : Rel B p s w) (hf : fr.is p s.n a) {t : TypeId} {x y : Operand} (h : oIndexAddr P s t (fr.eval x) (fr.eval y) = some (.val v, s')) :
    Fine P B p s w (do pure (.value (← Instr.indexAt t (a.eval x) (a.eval y)))) v s' := by
  unfold oIndexAddr at h
  split at h
  · rename_i n e i o kk k hu hx hy
    split at h
    · rename_i size hsz hb
      rw [forceNat_eq] at h
      obtain ⟨rfl, rfl⟩ := pair_inj h
      have hx := hf.eval hx
      have hb := Nat.le_of_ble_eq_true hb
      rw [show a.eval x = _ from hx.2, show a.eval y = _ from hf.eval hy]
      refine Fine.quiet hr (u := p.at i (o + k * size)) ?_ ⟨hx.1, rfl⟩
      have hk : (0 : Int) ≤ Int.ofNat k ∧ Int.ofNat k < (n : Int) := ⟨Int.natCast_nonneg k, by have : k < n := hb; simp; omega⟩
      simp only [Instr.indexAt, asIntOf, Sem.run_bind, Sem.run_pure, Result.andThen_ok, run_underlying' hu, Instr.sureAddr, Pl.at, run_sizeOf hsz, if_pos hk, Sem.run_ite, addr_add]
      simp
    · cases h
  · rename_i e i o n c kk k hu hx hy
    split at h
    · rename_i size hsz hb
      rw [forceNat_eq] at h
      obtain ⟨rfl, rfl⟩ := pair_inj h
      have hx := hf.eval hx
      have hb := Nat.le_of_ble_eq_true hb
      rw [show a.eval x = _ from hx.2.2, show a.eval y = _ from hf.eval hy]
      refine Fine.quiet hr (u := p.at i (o + k * size)) ?_ ⟨hx.1, rfl⟩
      have hk : (0 : Int) ≤ Int.ofNat k ∧ Int.ofNat k < (n : Int) := ⟨Int.natCast_nonneg k, by have : k < n := hb; simp; omega⟩
      simp only [Instr.indexAt, asIntOf, Sem.run_bind, Sem.run_pure, Result.andThen_ok, run_underlying' hu, Instr.sureAddr, Pl.at, run_sizeOf hsz, if_pos hk, Sem.run_ite, addr_add]
      simp
    · cases h
  · rename_i e i o n c kk k hu hx hy
    split at h
    · rename_i size hsz hb
      rw [forceNat_eq] at h
      obtain ⟨rfl, rfl⟩ := pair_inj h
      obtain ⟨hxi, c', _, _, hx⟩ := hf.eval hx
      have hb := Nat.le_of_ble_eq_true hb
      rw [hx, show a.eval y = _ from hf.eval hy]
      refine Fine.quiet hr (u := p.at i (o + k * size)) ?_ ⟨hxi, rfl⟩
      have hk : (0 : Int) ≤ Int.ofNat k ∧ Int.ofNat k < (n : Int) := ⟨Int.natCast_nonneg k, by have : k < n := hb; simp; omega⟩
      simp only [Instr.indexAt, asIntOf, Sem.run_bind, Sem.run_pure, Result.andThen_ok, run_underlying' hu, Instr.sureAddr, Pl.at, run_sizeOf hsz, if_pos hk, Sem.run_ite, addr_add]
      simp
    · cases h
  · cases h
theorem oIndex_sound (hr : Rel B p s w) (hf : fr.is p s.n a) {t : TypeId} {x y : Operand} (h : oIndex P s t (fr.eval x) (fr.eval y) = some (.val v, s')) :
    Fine P B p s w (do pure (.value (← Instr.index t (a.eval x) (a.eval y)))) v s' := by
  unfold oIndex at h
  split at h
  · rename_i z kk k hu hx hy
    obtain ⟨b, hb, rfl, rfl⟩ := map_inj h
    rw [lget_eq] at hb
    rw [show a.eval x = _ from hf.eval hx, show a.eval y = _ from hf.eval hy]
    refine Fine.quiet hr (u := .int .u8 b.toNat) ?_ rfl
    have hb' : z[k]? = some b := by
      rw [Array.getElem?_toList] at hb
      rw [Array.getElem?_eq_some_iff] at hb
      obtain ⟨h1, h2⟩ := hb
      have h1' : k < z.size := h1
      rw [getElem?_pos z k h1']
      exact congrArg some h2
    simp [Instr.index, asIntOf, run_underlying' hu, hb']
  · rename_i n e c kk k hu hx hy
    obtain ⟨cs, hx, hcs⟩ := hf.eval hx
    split at h
    · rename_i size ha hsz hb
      have hb := Nat.le_of_ble_eq_true hb
      split at h
      · obtain ⟨rfl, rfl⟩ := pair_inj h
        rw [hx, show a.eval y = _ from hf.eval hy]
        refine Fine.quiet hr (u := .agg (cs.extract (k * size) (k * size + size))) ?_ ⟨_, rfl, lslice_is hcs _ _⟩
        have hk : (0 : Int) ≤ Int.ofNat k ∧ Int.ofNat k < (n : Int) := ⟨Int.natCast_nonneg k, by have : k < n := hb; simp; omega⟩
        simp only [Instr.index, asIntOf, Sem.run_bind, Sem.run_pure, Result.andThen_ok, run_underlying' hu, run_sizeOf hsz, if_pos hk, Sem.run_ite, part, run_isAgg ha]
        simp
      · cases h
    · rename_i size ha hsz hb
      have hb := Nat.le_of_ble_eq_true hb
      obtain ⟨c', hc', rfl, rfl⟩ := map_inj h
      rw [lget_eq] at hc'
      obtain ⟨u, hu', hcu⟩ := hcs.get _ _ hc'
      have hu' : cs[k * size]? = some u := by simpa using hu'
      rw [hx, show a.eval y = _ from hf.eval hy]
      refine Fine.quiet hr (u := u) ?_ hcu
      have hk : (0 : Int) ≤ Int.ofNat k ∧ Int.ofNat k < (n : Int) := ⟨Int.natCast_nonneg k, by have : k < n := hb; simp; omega⟩
      simp only [Instr.index, asIntOf, Sem.run_bind, Sem.run_pure, Result.andThen_ok, run_underlying' hu, run_sizeOf hsz, if_pos hk, Sem.run_ite, part, run_isAgg ha]
      simp [hu']
    · cases h
  · cases h

end Go.Ax
