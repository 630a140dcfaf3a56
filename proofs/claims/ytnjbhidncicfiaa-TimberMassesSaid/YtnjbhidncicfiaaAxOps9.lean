/- Each operation of a symbolic run is what the model does, ninth part: append and the other builtins. -/
import Derived.Test.YtnjbhidncicfiaaAxOps8
namespace Go.Ax
open Go

variable {P : Program} {B : Nat} {p : Pl} {s s' : St} {w : World} {fr : Fr} {a : Act} {v : AV}

/-- A value of a builtin. -/
def BFine (P : Program) (B : Nat) (p : Pl) (s : St) (w : World) (x : Sem Value) (v : AV) (s' : St) : Prop :=
  ∃ u q w', x.run P w = .ok u w' ∧ v.is q s'.n u ∧ Post B p s w q s' w'
theorem BFine.fine {x : Sem Value} {v : AV} (h : BFine P B p s w x v s') : Fine P B p s w (do pure (.value (← x))) v s' := by
  obtain ⟨u, q, w', h1, h2, h3⟩ := h
  exact ⟨u, q, w', .inl (by rw [Sem.run_bind, h1]; rfl), h2, h3⟩
theorem BFine.quiet (hr : Rel B p s w) {x : Sem Value} {u : Value} {v : AV} (h : x.run P w = .ok u w) (hv : v.is p s.n u) : BFine P B p s w x v s :=
  ⟨u, p, w, h, hv, Post.refl hr⟩

theorem heapRel (hr : Rel B p s w) {w' : World} (h : w'.heap = w.heap) : Rel B p s w' :=
  ⟨fun i r h1 h2 => by rw [h]; exact hr.row i r h1 h2, hr.inj⟩
theorem zeroAnywhere {e : TypeId} {z : List Sc} (h : zeroCellsOf P e = some z) (p : Pl) (n : Nat) : ∃ u, (∀ w : World, (zeroValue e).run P w = .ok u w) ∧ ScL.is p n z u.cells.toList := by
  unfold zeroCellsOf at h
  split at h
  · rename_i i hi
    split at h
    · rename_i u hu
      rw [Option.map_eq_some_iff] at h
      obtain ⟨a, ha, rfl⟩ := h
      exact ⟨u, fun w => by simp [zeroValue, run_typeInfo hi, hu], (ofA1_is ha).cells⟩
    · cases h
  · cases h
theorem zeroCells_size (z : Array Value) (k : Nat) : (Builtin.zeroCells z k).size = k * z.size := by simp [Builtin.zeroCells]

/-- The new row behind an append that grows. -/
theorem grown_post (hr : Rel B p s w) (hB : B ≤ w.heap.size) {e : TypeId} {size need c : Nat} {cells : List Sc} {vs : List Value} (hc : ScL.is p s.n cells vs) {zs : Array Value} (hz : zs.size = size) (hvs : vs.length = need * size) (hle : need ≤ c) :
    let w' : World := { { w with drawn := w.drawn + 1 } with heap := w.heap.push (.cells (vs.toArray ++ Builtin.zeroCells zs (c - need)) e) }
    Post B p s w (p.set s.n w.heap.size (c * size)) (s.row e false cells) w' := by
  intro w'
  have h0 : Post B p s w p s { w with drawn := w.drawn + 1 } := Post.drew hr
  rw [St.row_eq]
  have := Post.new' (w := { w with drawn := w.drawn + 1 }) (heapRel hr rfl) hB (.cells e false cells.length (T.ofList cells)) (.cells (vs.toArray ++ Builtin.zeroCells zs (c - need)) e) (c * size) ?_
  · exact h0.trans this
  · have hl := hc.length
    refine ⟨_, rfl, by simp; omega, fun h => absurd h (by simp), fun _ => ?_, fun j x hj => by have := ofList_get hj; rw [List.getElem?_eq_some_iff] at this; exact this.1, fun j x hj => ?_⟩
    · rw [Pl.set_κ]
      simp only [Array.size_append, List.size_toArray, zeroCells_size, hvs, hz]
      rw [← Nat.add_mul]
      congr 1; omega
    · obtain ⟨y, hy, hxy⟩ := hc.get j x (ofList_get hj)
      refine ⟨y, ?_, hxy.fits (p.set_fits _ _ _) (by omega)⟩
      have hjl : j < vs.length := by rw [List.getElem?_eq_some_iff] at hy; exact hy.1
      rw [Array.getElem?_append_left (by simpa using hjl)]
      simpa using hy
theorem row_false_n (s : St) (e : TypeId) (l : List Sc) : (s.row e false l).n = s.n + 1 := row_n s e false l

theorem appendGrow_sound (hr : Rel B p s w) (hB : B ≤ w.heap.size) {t ty e : TypeId} {r : List TypeId} {info : TypeInfo} (hu : P.underlying t = some (.slice e)) (hz : noZeros P r = true) {base : Option Addr} {sl cap n : Nat} {u : Value} (hroom : Room P e info (sl + n)) (hn : (Builtin.lenOf u).run P w = .ok n w)
    (hgrow : cap < sl + n) {new old : List Sc} {vs os : List Value} (hnew : ∀ w' : World, w'.heap = w.heap → (Builtin.firstCells info.size n u).run P w' = .ok vs.toArray w') (hold : ∀ w' : World, w'.heap = w.heap → (Builtin.firstCells info.size sl (.slice base sl cap)).run P w' = .ok os.toArray w')
    (hvs : ScL.is p s.n new vs) (hos : ScL.is p s.n old os) (hvl : vs.length = n * info.size) (hol : os.length = sl * info.size) {z : Sc} (h : appendGrow s e info.size (sl + n) (old ++ new) = some (z, s')) :
    BFine P B p s w (Builtin.append_ (t :: r).toArray ty #[.slice base sl cap, u]) (.sc z) s' := by
  unfold appendGrow at h
  rw [forceNat_eq, forceNat_eq] at h
  injection h with h; injection h with h1 h2; subst h1 h2
  obtain ⟨zc, hzc, hzl⟩ := hroom.zero
  obtain ⟨zu, hzu, hzi⟩ := zeroAnywhere hzc p s.n
  have hzs : zu.cells.size = info.size := by have := hzi.length; simp only [Array.length_toList] at this; omega
  obtain ⟨c, hle, hrun⟩ := append_grow_run (P := P) (w := w) (ty := ty) hu hz hroom hn hgrow hnew hold hzu
  have hp := grown_post (e := e) (c := c) (need := sl + n) hr hB (hos.append hvs) hzs (by rw [List.length_append, hol, hvl, ← Nat.add_mul]) hle
  refine ⟨_, _, _, hrun, ?_, by simpa using hp⟩
  refine ⟨Pl.set_has _ _ _ _ _ (by rw [row_false_n]; omega), c, hle, by rw [Pl.set_κ]; omega, by rw [Pl.set_ρ]⟩

theorem range_length {α : Type} {t : T α} : ∀ {n o : Nat} {l : List α}, t.range o n = some l → l.length = n
  | 0, o, l, h => by rw [T.range_zero] at h; injection h with h; subst h; rfl
  | n + 1, o, l, h => by
    rw [T.range_succ] at h
    split at h
    · rename_i x l' hx hl; injection h with h; subst h; simp [range_length hl]
    · cases h
theorem firstOf_length {size n : Nat} {x : Sc} {l : List Sc} (h : firstOf s size n x = some l) : x = .nils ∨ l.length = n * size := by
  unfold firstOf at h
  split at h
  · exact .inl rfl
  · refine .inr ?_; unfold rowRange at h; split at h
    · exact range_length h
    · cases h
  · refine .inr ?_; unfold rowRange at h; split at h
    · exact range_length h
    · cases h
  · cases h

theorem append_sound (hr : Rel B p s w) (hB : B ≤ w.heap.size) {t ty : TypeId} {r : List TypeId} {x y z : Sc} {u v : Value} (hx : x.is p s.n u) (hy : y.is p s.n v) (h : append? P s t r x y = some (z, s')) :
    BFine P B p s w (Builtin.append_ (t :: r).toArray ty #[u, v]) (.sc z) s' := by
  unfold append? at h
  split at h
  · rename_i e hu hz
    split at h
    · rename_i info xl yl hi hxl hyl
      have hsz : sizeOf? P e = some info.size := by simp [sizeOf?, hi]
      have hn := lenOf_run (P := P) hyl hy w
      split at h
      · -- nothing is appended
        rename_i new hnew hy0 hfit
        have hy0 := Nat.eq_of_beq_eq_true hy0
        subst hy0
        injection h with h; injection h with h1 h2; subst h1 h2
        obtain ⟨vs, hvs, hvi⟩ := firstOf_run (P := P) hr hnew hy
        have hv0 : vs = [] := by
          have h1 := hvi.length
          rcases firstOf_length hnew with rfl | hl
          · unfold firstOf at hnew; injection hnew with hnew; subst hnew; simpa using h1
          · rw [hl] at h1; simpa using h1
        subst hv0
        unfold lenOf? at hxl
        split at hxl
        · injection hxl with hxl; subst hxl
          rw [show u = _ from hx]
          exact BFine.quiet hr (append_fits_run (base := none) (sl := 0) (cap := 0) (n := 0) hu hz hi hn (by omega) (hvs w rfl) (w' := w) (by simp) (fun _ => rfl)) rfl
        · injection hxl with hxl; subst hxl
          rw [show u = _ from hx.2.2]
          have hlc := hx.2.1
          exact BFine.quiet hr (append_fits_run (n := 0) hu hz hi hn (by omega) (hvs w rfl) (w' := w) (fun a _ => rfl) (fun _ => rfl)) (by rw [hx.2.2] at hx; exact hx)
        · injection hxl with hxl; subst hxl
          obtain ⟨h1, c, h2, h3, rfl⟩ := hx
          exact BFine.quiet hr (append_fits_run (n := 0) hu hz hi hn (by omega) (hvs w rfl) (w' := w) (fun a _ => rfl) (fun _ => rfl)) ⟨h1, c, h2, h3, rfl⟩
        · cases hxl
      · rename_i new hnew hy0 hfit
        have hroom := room_of hi hfit
        obtain ⟨vs, hvs, hvi⟩ := firstOf_run (P := P) hr hnew hy
        have hypos : 0 < yl := by
          rcases Nat.eq_zero_or_pos yl with e | e
          · subst e; simp at hy0
          · exact e
        have hyl' : vs.length = yl * info.size := by
          rw [hvi.length]
          rcases firstOf_length hnew with rfl | hl
          · unfold lenOf? at hyl; injection hyl with hyl; omega
          · exact hl
        unfold appendSome at h
        split at h
        · unfold lenOf? at hxl; injection hxl with hxl; subst hxl
          rw [show u = _ from hx]
          exact appendGrow_sound (old := []) (os := []) hr hB hu hz hroom hn (by omega) hvs (fun _ _ => rfl) hvi trivial hyl' (by simp) (by simpa using h)
        · rename_i i o xl' cap
          unfold lenOf? at hxl; injection hxl with hxl; subst hxl
          rw [show u = _ from hx.2.2]
          split at h
          · rename_i hle
            have hle := Nat.le_of_ble_eq_true hle
            rw [Option.map_eq_some_iff] at h
            obtain ⟨s1, hs1, h⟩ := h
            injection h with h1 h2; subst h1 h2
            obtain ⟨w', hrun, hpost⟩ := rowPut_sound (P := P) hr hs1 hvi
            refine ⟨_, p, w', append_fits_run hu hz hi hn hle (hvs w rfl) (w' := w') (fun a ha => ?_) (fun e => by cases e), ⟨hpost.fits.has hpost.le hx.1, hle, rfl⟩, hpost⟩
            injection ha with ha; subst ha
            rw [addr_add]; exact hrun
          · rename_i hnle
            have hnle : ¬ (xl' + yl ≤ cap) := fun e => by rw [Nat.ble_eq_true_of_le e] at hnle; cases hnle
            split at h
            · rename_i old hold
              obtain ⟨os, hos, hoi⟩ := firstOf_run (P := P) hr hold hx
              rw [show u = _ from hx.2.2] at hos
              have hol : os.length = xl' * info.size := by
                rw [hoi.length]
                rcases firstOf_length hold with e | hl
                · cases e
                · exact hl
              exact appendGrow_sound hr hB hu hz hroom hn (by omega) hvs hos hvi hoi hyl' hol h
            · cases h
        · rename_i i o xl' zz
          unfold lenOf? at hxl; injection hxl with hxl; subst hxl
          obtain ⟨hi0, c, hlc, hκ, hux⟩ := hx
          split at h
          · rename_i hzz
            have hzz := Nat.eq_of_beq_eq_true hzz
            subst hzz
            unfold appendOpen at h
            split at h
            · rename_i e' len cc hg
              split at h
              · rename_i hb1 hb2
                obtain ⟨g1, g0⟩ := and_true' hb1
                have g1 := Nat.eq_of_beq_eq_true g1
                have g0 := Nat.eq_of_beq_eq_true g0
                have g2 := Nat.eq_of_beq_eq_true hb2
                subst g0 g2 g1
                rw [forceNat_eq, forceNat_eq, forceNat_eq] at h
                injection h with h; injection h with h1 h2; subst h1 h2
                rw [hux]
                obtain ⟨_, cs, hcs, hcl, _, hck, hcb, hcc⟩ := hr.cells hg
                have hck := hck rfl
                rw [Nat.zero_add] at hκ
                have hnl := hvi.length
                by_cases hfitc : xl' + yl ≤ c
                · -- in place
                  have hcap : (xl' + yl) * info.size ≤ c * info.size := Nat.mul_le_mul_right _ hfitc
                  rw [Nat.add_mul] at hcap
                  have hrun := run_storeCells_at (P := P) (p.ρ i) (xl' * info.size) e' vs 0 cs w hcs (by omega) hvi.one
                  obtain ⟨hsz', hst⟩ := sets_is (o := xl' * info.size) hcc hvi (by omega)
                  have hf := p.set_fits s.n (p.ρ i) (p.κ i)
                  generalize (cs.toList.take (xl' * info.size + 0) ++ vs ++ cs.toList.drop (xl' * info.size + 0 + vs.length)).toArray = arr at hrun hsz' hst
                  refine ⟨_, p.set s.n (p.ρ i) (p.κ i), w.setRow (p.ρ i) arr, append_fits_run hu hz hi hn hfitc (hvs w rfl) (fun a ha => ?_) (fun e => by cases e), ?_, Post.transfer hr ⟨_, hg, rfl⟩ _ _ (setRow_size w (p.ρ i) arr) ?_ (fun b hb => setRow_other w _ _ _ hb) rfl rfl rfl⟩
                  · injection ha with ha; subst ha
                    rw [addr_add, Nat.zero_add]; exact hrun
                  · exact ⟨Pl.set_has _ _ _ _ _ (by rw [St.new_n, St.put_n]; omega), c, hfitc, by rw [Pl.set_κ]; omega, by rw [Pl.set_ρ]⟩
                  · rw [setRow_heap w (p.ρ i) cs arr e' _ hcs]
                    refine ⟨arr, rfl, by omega, fun h => absurd h (by simp), fun _ => by rw [hsz', Pl.set_κ]; exact hck, fun j y hj => ?_, fun j y hj => let ⟨u, h1, h2⟩ := hst j y hj; ⟨u, h1, h2.fits hf (by omega)⟩⟩
                    rcases T.get_sets _ _ _ _ _ hj with ⟨ha, hb⟩ | ⟨ha, hb⟩
                    · rw [List.getElem?_eq_some_iff] at hb; obtain ⟨hb, _⟩ := hb; omega
                    · have := hcb j y hb; omega
                · -- a new row
                  obtain ⟨zc, hzc, hzl⟩ := hroom.zero
                  obtain ⟨zu, hzu, hzi⟩ := zeroAnywhere hzc p s.n
                  have hzs : zu.cells.size = info.size := by have := hzi.length; simp only [Array.length_toList] at this; omega
                  have hol : (cs.toList.take (xl' * info.size)).length = xl' * info.size := by simp; omega
                  have hold : ∀ w' : World, w'.heap = w.heap → (Builtin.firstCells info.size xl' (.slice (some ⟨p.ρ i, 0, none⟩) xl' c)).run P w' = .ok (cs.toList.take (xl' * info.size)).toArray w' := by
                    intro w' hw'
                    exact run_loadRange (P := P) (w := w') (by rw [hw']; exact hcs) (fun j v hj => by
                      have hj' := hj
                      rw [List.getElem?_eq_some_iff] at hj'
                      obtain ⟨hjl, _⟩ := hj'
                      rw [hol] at hjl
                      rw [List.getElem?_take_of_lt hjl] at hj
                      rw [Nat.zero_add]; simpa using hj) hol
                  obtain ⟨c', hle, hrun⟩ := append_grow_run (P := P) (w := w) (ty := ty) hu hz hroom hn (base := some ⟨p.ρ i, 0, none⟩) (by omega) hvs hold hzu
                  have hf := p.set_fits s.n w.heap.size (c' * info.size)
                  -- the old number is given up, a new row is laid
                  have hP1 : Post B p s w p (s.put i .dead) { w with drawn := w.drawn + 1 } := Post.write hr ⟨_, hg, rfl⟩ .dead rfl trivial (fun _ _ => rfl) rfl rfl rfl
                  have hn1 : (s.put i Row.dead).n = s.n := St.put_n _ _ _
                  have hP2 := Post.new' hP1.rel (w := { w with drawn := w.drawn + 1 }) hB (.cells e' false (xl' * info.size + new.length) (cc.sets (xl' * info.size) new)) (.cells ((cs.toList.take (xl' * info.size)).toArray ++ vs.toArray ++ Builtin.zeroCells zu.cells (c' - (xl' + yl))) e') (c' * info.size) ?_
                  · refine ⟨_, _, _, hrun, ?_, hP1.trans (by rw [hn1] at hP2; exact hP2)⟩
                    exact ⟨Pl.set_has _ _ _ _ _ (by rw [St.new_n, hn1]; omega), c', hle, by rw [Pl.set_κ]; omega, by rw [Pl.set_ρ]⟩
                  · rw [hn1]
                    refine ⟨_, rfl, by simp; omega, fun h => absurd h (by simp), fun _ => ?_, fun j y hj => ?_, fun j y hj => ?_⟩
                    · rw [Pl.set_κ]
                      simp only [Array.size_append, List.size_toArray, zeroCells_size, hol, hyl', hzs]
                      rw [← Nat.add_mul, ← Nat.add_mul]
                      congr 1; omega
                    · rcases T.get_sets _ _ _ _ _ hj with ⟨ha, hb⟩ | ⟨ha, hb⟩
                      · rw [List.getElem?_eq_some_iff] at hb; obtain ⟨hb, _⟩ := hb; omega
                      · have := hcb j y hb; omega
                    · rcases T.get_sets _ _ _ _ _ hj with ⟨ha, hb⟩ | ⟨ha, hb⟩
                      · obtain ⟨q, hq, hqy⟩ := hvi.get _ _ hb
                        refine ⟨q, ?_, hqy.fits hf (by omega)⟩
                        have hjl : j - xl' * info.size < vs.length := by rw [List.getElem?_eq_some_iff] at hq; exact hq.1
                        rw [Array.getElem?_append_left (by simp; omega), Array.getElem?_append_right (by simp; omega)]
                        simp only [List.size_toArray, hol]
                        simpa using hq
                      · have hjl := hcb j y hb
                        obtain ⟨q, hq, hqy⟩ := hcc j y hb
                        refine ⟨q, ?_, hqy.fits hf (by omega)⟩
                        rw [Array.append_assoc, Array.getElem?_append_left (by simp; omega)]
                        rw [List.getElem?_toArray, List.getElem?_take_of_lt hjl]
                        simpa using hq
              · cases h
            · cases h
          · cases h
        · cases h
      · cases h
    · cases h
  · cases h

end Go.Ax
