/- Rows of records of numbers are copied. -/
import Derived.Test.YtablphoicidlkaaMGR
import Derived.Test.YtablphoicidlkaaFG0
import Derived.Test.YtablphoicidlkaaSW
namespace Go.Proofs.Ytablphoicidlkaa
open Go.RowKit

def RecAt {α : Type} (f : α → List Int) (sz : Nat) (w : World) (blk off : Nat) (x : α) : Prop := ∀ j, j < sz → w.cell? ⟨blk, off + j, none⟩ = some (.int .i64 ((f x).getD j 0))
abbrev RecRow {α : Type} (f : α → List Int) (sz : Nat) (w : World) (A : Option Addr) (n : Nat) (l : List α) : Prop := RowOf (RecAt f sz w) sz A n l w.heap.size
def flatR {α : Type} (f : α → List Int) : List α → List Value
  | [] => []
  | x :: r => (f x).map (Value.int .i64) ++ flatR f r
theorem flatR_len {α : Type} {f : α → List Int} {sz : Nat} (hf : ∀ x, (f x).length = sz) : ∀ l : List α, (flatR f l).length = l.length * sz
  | [] => by simp [flatR]
  | x :: r => by
    show ((f x).map (Value.int .i64) ++ flatR f r).length = (r.length + 1) * sz
    rw [List.length_append, List.length_map, hf, flatR_len hf r, Nat.add_mul]
    omega
theorem flatR_at {α : Type} {f : α → List Int} {sz : Nat} (hf : ∀ x, (f x).length = sz) : ∀ (l : List α) (k : Nat) (h : k < l.length) (j : Nat), j < sz → (flatR f l)[k * sz + j]? = some (.int .i64 ((f l[k]).getD j 0))
  | x :: r, 0, _, j, hj => by
    show ((f x).map (Value.int .i64) ++ flatR f r)[0 * sz + j]? = _
    rw [List.getElem?_append_left (by rw [List.length_map, hf]; omega)]
    rw [List.getElem?_map, Nat.zero_mul, Nat.zero_add, List.getElem?_eq_getElem (by rw [hf]; exact hj)]
    simp [List.getD_eq_getElem?_getD, List.getElem?_eq_getElem (show j < (f x).length by rw [hf]; exact hj)]
  | x :: r, k + 1, h, j, hj => by
    have ih := flatR_at hf r k (by simpa using h) j hj
    show ((f x).map (Value.int .i64) ++ flatR f r)[(k + 1) * sz + j]? = _
    rw [List.getElem?_append_right (by rw [List.length_map, hf, Nat.add_mul]; omega), List.length_map, hf, show (k + 1) * sz + j - sz = k * sz + j by rw [Nat.add_mul]; omega]
    exact ih
theorem flatR_cells {α : Type} {f : α → List Int} {sz : Nat} (hf : ∀ x, (f x).length = sz) {w : World} {blk off : Nat} {l : List α} (hc : ∀ k (h : k < l.length), RecAt f sz w blk (off + k * sz) l[k]) : ∀ j u, (flatR f l)[j]? = some u → w.cell? ((⟨blk, off, none⟩ : Addr).add j) = some u := fun j u hu => by
  have hj : j < l.length * sz := by
    rcases Nat.lt_or_ge j (l.length * sz) with h | h
    · exact h
    · rw [List.getElem?_eq_none (by rw [flatR_len hf]; exact h)] at hu; cases hu
  have hs : 0 < sz := by
    rcases Nat.eq_zero_or_pos sz with h | h
    · subst h; simp at hj
    · exact h
  have hk : j / sz < l.length := Nat.div_lt_of_lt_mul (by rw [Nat.mul_comm]; exact hj)
  have hm : j % sz < sz := Nat.mod_lt _ hs
  have e : j / sz * sz + j % sz = j := by rw [Nat.mul_comm]; exact Nat.div_add_mod j sz
  have h1 := flatR_at hf l (j / sz) hk (j % sz) hm
  rw [e, hu] at h1
  have h2 := hc (j / sz) hk (j % sz) hm
  rw [Nat.add_assoc, e] at h2
  have ha : (⟨blk, off, none⟩ : Addr).add j = ⟨blk, off + j, none⟩ := by
    unfold Addr.add
    by_cases hj0 : j = 0
    · rw [if_pos hj0, hj0]; rfl
    · rw [if_neg hj0]
  rw [ha, h2, h1]
theorem run_copy_rec {α : Type} {f : α → List Int} {sz bytes : Nat} (hf : ∀ x, (f x).length = sz) (_hs : 0 < sz) (hb : bytes ≤ 24) {ts te ty : TypeId} {z : Value} (hinfo : (Try.prog.info? te).map (fun i => (i.zero, i.size, i.bytes)) = some (some z, sz, bytes)) (hu : Try.prog.underlying ts = some (.slice te))
    {w : World} {g m c : Nat} {A : Option Addr} {l : List α} (hrow : RecRow f sz w A m l) (hlen : m ≤ 1000000) :
    ∃ A' c' w', (Builtin.append_ #[ts, ts] ty #[.slice (some ⟨g, 0, none⟩) 0 0, .slice A m c]).run Try.prog w = .ok (.slice A' m c') w' ∧ RecRow f sz w' A' m l ∧ (0 < m → ∀ a, A' = some a → w.heap.size ≤ a.block) ∧ Below w.heap.size w w' := by
  obtain ⟨i, hi, hz0, hz1, hz2⟩ := info_parts hinfo
  have hm := hrow.1
  by_cases hm0 : m = 0
  · subst hm0
    have hl : l = [] := List.eq_nil_of_length_eq_zero hm
    subst hl
    have hsr : Src Try.prog i.size ts (.slice A 0 c) 0 [] w := by
      cases A with
      | none => exact Src.ofNil w hu c
      | some a => exact Src.ofSlice w hu a 0 c [] (by simp) (fun j u h => by simp at h) (fun u h => by cases h)
    exact ⟨_, _, _, run_append_nothing w ts ts ty te i hu hi _ 0 0 (Nat.le_refl _) _ hsr, ⟨rfl, fun h => absurd h (by omega)⟩, fun h => absurd h (by omega), Below.refl _ _⟩
  · obtain ⟨blk, off, rfl, -, hc⟩ := hrow.2 (by omega)
    have hbb : m * bytes ≤ 1000000 * 24 := Nat.mul_le_mul hlen hb
    have hr := run_append_grow (P := Try.prog) (w := w) ts ty te i z hu hi hz0 ⟨g, 0, none⟩ 0 0 [] (by simp) (fun j v h => by simp at h) ⟨blk, off, none⟩ m c (flatR f l) (by rw [flatR_len hf, hz1, hm]) (flatR_cells hf hc) (by omega) (by omega) (by rw [Nat.zero_add, nextslicecap_zero (by omega), hz2]; omega)
    rw [Nat.zero_add] at hr
    refine ⟨_, _, _, hr, ⟨hm, fun _ => ⟨_, 0, rfl, by simp, fun k hk j hj => ?_⟩⟩, fun _ a ha => by cases ha; exact Nat.le_refl _, (Below.drew (Below.refl _ _)).alloc (by simp) _⟩
    have f1 := flatR_at hf l k hk j hj
    have hfl := flatR_len hf l
    have hkj : k * sz + j < l.length * sz := by
      have : (k + 1) * sz ≤ l.length * sz := Nat.mul_le_mul_right _ hk
      rw [Nat.add_mul] at this
      omega
    have hz : (w.drew.alloc (.cells ([].toArray ++ (flatR f l).toArray ++ Builtin.zeroCells z.cells (grownCap w m 0 te - m)) te)).cell? ⟨w.heap.size, k * sz + j, none⟩ = (flatR f l)[k * sz + j]? := by
      have := World.cell?_alloc_new w.drew (([].toArray ++ (flatR f l).toArray ++ Builtin.zeroCells z.cells (grownCap w m 0 te - m))) te (k * sz + j)
      have hsz : w.drew.heap.size = w.heap.size := by simp
      rw [hsz] at this
      rw [this]
      rw [Array.getElem?_append_left (by simp; omega)]
      simp
    rw [Nat.zero_add]
    exact hz.trans f1
/-! ### Lumps, drawers, numbers -/
def lpF (p : Lp) : List Int := [p.a, p.g]
def dwF (d : Dw) : List Int := [d.a, d.g, d.t]
def inF (x : Int) : List Int := [x]
theorem lp_rec {w : World} {A : Option Addr} {n : Nat} {l : List Lp} : RecRow lpF 2 w A n l ↔ LpRow w A n l := by
  constructor
  · intro h
    exact RowOf.keep h (Nat.le_refl _) fun blk off x _ hx => ⟨hx 0 (by decide), hx 1 (by decide)⟩
  · intro h
    exact RowOf.keep h (Nat.le_refl _) fun blk off x _ hx j hj => by
      match j, hj with
      | 0, _ => exact hx.1
      | 1, _ => exact hx.2
theorem dw_rec {w : World} {A : Option Addr} {n : Nat} {l : List Dw} : RecRow dwF 3 w A n l ↔ DwRow w A n l := by
  constructor
  · intro h
    exact RowOf.keep h (Nat.le_refl _) fun blk off x _ hx => ⟨hx 0 (by decide), hx 1 (by decide), hx 2 (by decide)⟩
  · intro h
    exact RowOf.keep h (Nat.le_refl _) fun blk off x _ hx j hj => by
      match j, hj with
      | 0, _ => exact hx.1
      | 1, _ => exact hx.2.1
      | 2, _ => exact hx.2.2
theorem in_rec {w : World} {A : Option Addr} {n : Nat} {l : List Int} : RecRow inF 1 w A n l ↔ IntRow w A n l := by
  constructor
  · intro h
    exact RowOf.keep h (Nat.le_refl _) fun blk off x _ hx => hx 0 (by decide)
  · intro h
    exact RowOf.keep h (Nat.le_refl _) fun blk off x _ hx j hj => by
      match j, hj with
      | 0, _ => exact hx
theorem infoLp : (Try.prog.info? 176).map (fun i => (i.zero, i.size, i.bytes)) = some (some (.agg #[.int .i64 0, .int .i64 0]), 2, 16) := by kernel_rfl
theorem infoDw : (Try.prog.info? 178).map (fun i => (i.zero, i.size, i.bytes)) = some (some (.agg #[.int .i64 0, .int .i64 0, .int .i64 0]), 3, 24) := by kernel_rfl
theorem infoIn : (Try.prog.info? 3).map (fun i => (i.zero, i.size, i.bytes)) = some (some (.int .i64 0), 1, 8) := by kernel_rfl
theorem wpList_copy_rec {α : Type} {f : α → List Int} {sz bytes : Nat} (hf : ∀ x, (f x).length = sz) (hsz : 0 < sz) (hb : bytes ≤ 24) {ts te : TypeId} {z : Value} (hinfo : (Try.prog.info? te).map (fun i => (i.zero, i.size, i.bytes)) = some (some z, sz, bytes)) (hu : Try.prog.underlying ts = some (.slice te))
    {w : World} {ops : Array Oper} {rest : List Oper} {o : Oper} {a : Act} {Q : Exit → Act → World → Prop} (hgd : o.guard = none) (s x : Operand)
    (ho : o.op = .call { callee := .builtin .append, args := #[s, x], argTypes := #[ts, ts] })
    {g n c : Nat} {A : Option Addr} {l : List α} (hs : a.eval s = .slice (some ⟨g, 0, none⟩) 0 0) (hx : a.eval x = .slice A n c) (hrow : RecRow f sz w A n l) (hlen : n ≤ 1000000)
    (h : ∀ A' c' w', RecRow f sz w' A' n l → Below w.heap.size w w' → wpList Try.prog ops Q rest (a.put o.dst (.slice A' n c')) w') :
    wpList Try.prog ops Q (o :: rest) a w := by
  refine wpList_plain hgd fun K hK => ?_
  obtain ⟨A', c', w', hr, h2, -, h5⟩ := run_copy_rec (c := c) (g := g) (ty := o.type) hf hsz hb hinfo hu hrow hlen
  unfold Oper.wp execOp
  simp only [ho, resolve, invoke, builtin, Sem.run_bind, Sem.run_pure, Result.andThen_ok, List.map_toArray, List.map_cons, List.map_nil, hs, hx, hr]
  exact hK _ _ (h A' c' w' h2 h5)
set_option maxHeartbeats 1000000 in
theorem copyInts_any {A : Option Addr} {n c : Nat} {l : List Int} (hn : n ≤ 1000000) (w : World) (h : IntRow w A n l) :
    Calls Try.prog 73 #[.slice A n c] w fun e w' => ∃ A' c', e = .returned (.slice A' n c') ∧ IntRow w' A' n l ∧ Below w.heap.size w w' := by
  have HR := Lib.hid (in_rec.2 (h.below ((Below.refl w.heap.size w).alloc (Nat.le_refl _) (.cells #[] 3))))
  clear h
  go_enter Try.func73, Try.ntmps73
  go_wp2_with (at_builtin; refine wpList_copy_rec (f := inF) (sz := 1) (fun _ => rfl) (by decide) (by decide) infoIn Try.underlying111 rfl _ _ rfl rfl rfl HR.out hn ?_; intro A' c' w' hp hb; have HP := Lib.hid (in_rec.1 hp); have HB := Lib.hid (((Below.refl w.heap.size w).alloc (Nat.le_refl _) (.cells #[] 3)).trans (hb.mono (by simp))); clear hp hb)
  go_ret
  exact ⟨_, _, rfl, HP.out, HB.out⟩
def rRec {α : Type} (f : α → List Int) (sz B : Nat) (l : List α) (n : Nat) : RK := ⟨fun v w => ∃ A c, v = .slice A n c ∧ RecRow f sz w A n l ∧ (0 < n → ∀ a, A = some a → B ≤ a.block), fun _ _ _ hb ⟨A, c, e, h, hB⟩ => ⟨A, c, e, RowOf.keep h hb.size (fun _ _ _ hlt hx j hj => ((bcell hb).1 _ _ hlt).trans (hx j hj)), hB⟩⟩
theorem rstep_copyr {α : Type} {f : α → List Int} {sz bytes : Nat} (hf : ∀ x, (f x).length = sz) (hsz : 0 < sz) (hb : bytes ≤ 24) {ts te : TypeId} {z : Value} (hinfo : (Try.prog.info? te).map (fun i => (i.zero, i.size, i.bytes)) = some (some z, sz, bytes)) (hu : Try.prog.underlying ts = some (.slice te))
    {Q : Exit → Act → World → Prop} {L : List RK} {i : Nat} {o : Oper} {a : Act} {w : World} {s x : Operand} {g n c B : Nat} {A : Option Addr} {l : List α} (hB : B ≤ w.heap.size)
    (ho : o.op = .call { callee := .builtin .append, args := #[s, x], argTypes := #[ts, ts] }) (hs : a.eval s = .slice (some ⟨g, 0, none⟩) 0 0) (hx : a.eval x = .slice A n c) (hrow : RecRow f sz w A n l) (hn : n ≤ 1000000) (hL : L.getD i rAny = rRec f sz B l n) :
    o.wp Try.prog a w (fun a' w' => ∃ v, a' = a.put o.dst v ∧ Below w.heap.size w w' ∧ rkF L i v w') Q := by
  obtain ⟨A', c', w', hr, hp, hq, hbw⟩ := run_copy_rec (c := c) (g := g) (ty := o.type) hf hsz hb hinfo hu hrow hn
  unfold Oper.wp execOp
  simp only [ho, resolve, invoke, builtin, Sem.run_bind, Sem.run_pure, Result.andThen_ok, List.map_toArray, List.map_cons, List.map_nil, hs, hx, hr]
  exact ⟨_, rfl, hbw, by unfold rkF; rw [hL]; exact ⟨A', c', rfl, hp, fun h a e => Nat.le_trans hB (hq h a e)⟩⟩
end Go.Proofs.Ytablphoicidlkaa
namespace Go.Proofs.Ytablphoicidlkaa
open Go.RowKit

theorem rec_other {α : Type} {f : α → List Int} {sz n b o : Nat} {w : World} {A : Option Addr} {l : List α} {v : Value} (h : RecRow f sz w A n l) (hne : 0 < n → ∀ a, A = some a → a.block ≠ b) : RecRow f sz (w.setCell ⟨b, o, none⟩ v) A n l := by
  refine ⟨h.1, fun hn => ?_⟩
  obtain ⟨blk, off, e, hlt, hx⟩ := h.2 hn
  have hb := hne hn _ e
  refine ⟨blk, off, e, by simpa using hlt, fun k hk j hj => ?_⟩
  exact (World.cell?_setCell_other _ _ _ _ (fun h => hb (by injection h with h1 h2 _; exact h1.symm))).trans (hx k hk j hj)
def rCab (B : Nat) (D : Int) (ls : List Lp) (ds : List Dw) (n n' : Nat) : RK := ⟨fun v w => ∃ A c A' c', v = cbV D A n c A' n' c' ∧ RecRow lpF 2 w A n ls ∧ RecRow dwF 3 w A' n' ds ∧ (0 < n → ∀ a, A = some a → B ≤ a.block) ∧ (0 < n' → ∀ a, A' = some a → B ≤ a.block),
  fun _ _ _ hb ⟨A, c, A', c', e, h, h', hB, hB'⟩ => ⟨A, c, A', c', e, RowOf.keep h hb.size (fun _ _ _ hlt hx j hj => ((bcell hb).1 _ _ hlt).trans (hx j hj)), RowOf.keep h' hb.size (fun _ _ _ hlt hx j hj => ((bcell hb).1 _ _ hlt).trans (hx j hj)), hB, hB'⟩⟩
theorem rstep_cab {P : Program} {Q : Exit → Act → World → Prop} {L : List RK} {i : Nat} {o : Oper} {a : Act} {w : World} {n n' c c' B : Nat} {A A' : Option Addr} {D : Int} {ls : List Lp} {ds : List Dw} (hr : (execOp a.eval o).run P w = .ok (.value (cbV D A n c A' n' c')) w) (h1 : RecRow lpF 2 w A n ls) (h2 : RecRow dwF 3 w A' n' ds) (hB : 0 < n → ∀ a, A = some a → B ≤ a.block) (hB' : 0 < n' → ∀ a, A' = some a → B ≤ a.block) (hL : L.getD i rAny = rCab B D ls ds n n') :
    o.wp P a w (fun a' w' => ∃ v, a' = a.put o.dst v ∧ Below w.heap.size w w' ∧ rkF L i v w') Q := by
  unfold Oper.wp
  rw [hr]
  exact ⟨_, rfl, Below.refl _ _, by unfold rkF; rw [hL]; exact ⟨A, c, A', c', rfl, h1, h2, hB, hB'⟩⟩
set_option maxHeartbeats 4000000 in
set_option maxRecDepth 20000 in
theorem cabinet_any {D : Int} {A A' : Option Addr} {n c n' c' : Nat} {ls : List Lp} {ds : List Dw} (hn : n ≤ 1000000) (hn' : n' ≤ 1000000) (w : World) (R1 : LpRow w A n ls) (R2 : DwRow w A' n' ds) :
    Calls Try.prog 72 #[cbV D A n c A' n' c'] w fun e w' => ∃ B1 b1 B2 b2, e = .returned (cbV D B1 n b1 B2 n' b2) ∧ LpRow w' B1 n ls ∧ DwRow w' B2 n' ds ∧ Below w.heap.size w w' := by
  have HR1 := Lib.hid R1
  have HR2 := Lib.hid R2
  clear R1 R2
  unfold cbV
  go_enter Try.func72, Try.ntmps72
  go_wp2
  obtain ⟨w0, hw0⟩ : ∃ w0, ((w.alloc (.cells #[.int .i64 D, .slice A n c, .slice A' n' c'] 119)).alloc (.cells #[.int .i64 0, .slice none 0 0, .slice none 0 0] 119)) = w0 := ⟨_, rfl⟩
  have HB0 : Hid (Below w.heap.size w w0) := Lib.hid (by rw [← hw0]; exact (((Below.refl _ _).alloc (Nat.le_refl _) _).alloc (by simp; try omega) _))
  have HC := Lib.hid (fun wx (hb : Below w0.heap.size w0 wx) => (show wx.cell? ⟨w.heap.size, 0, none⟩ = some (.int .i64 D) ∧ wx.cell? ⟨w.heap.size, 1, none⟩ = some (.slice A n c) ∧ wx.cell? ⟨w.heap.size, 2, none⟩ = some (.slice A' n' c') ∧ wx.cell? ⟨w.heap.size + 1, 0, none⟩ = some (.int .i64 0) ∧ wx.cell? ⟨w.heap.size + 1, 1, none⟩ = some (.slice none 0 0) ∧ wx.cell? ⟨w.heap.size + 1, 2, none⟩ = some (.slice none 0 0) ∧ wx.frozen? ⟨w.heap.size + 1, 0, none⟩ = false ∧ wx.frozen? ⟨w.heap.size + 1, 1, none⟩ = false ∧ wx.frozen? ⟨w.heap.size + 1, 2, none⟩ = false from by
    subst hw0
    obtain ⟨k, kf⟩ := bcell hb
    exact ⟨(k _ _ (by simp; try omega)).trans (by simp [go_sem]), (k _ _ (by simp; try omega)).trans (by simp [go_sem]), (k _ _ (by simp; try omega)).trans (by simp [go_sem]), (k _ _ (by simp; try omega)).trans (by simp [go_sem]), (k _ _ (by simp; try omega)).trans (by simp [go_sem]), (k _ _ (by simp; try omega)).trans (by simp [go_sem]), (kf _ _ (by simp; try omega)).trans (by simp [go_sem]), (kf _ _ (by simp; try omega)).trans (by simp [go_sem]), (kf _ _ (by simp; try omega)).trans (by simp [go_sem])⟩))
  rw [hw0]
  clear hw0
  refine wp_region_rkt [3, 4, 5, 6, 7, 8, 9, 10, 11, 12, 13] [rEq (.pointer (some ⟨w.heap.size, 0, none⟩)), rEq (.int .i64 D), (rNew), rEq (.pointer (some ⟨w.heap.size, 1, none⟩)), rEq (.slice A n c), (rRec lpF 2 w0.heap.size ls n), (rNew), rEq (.pointer (some ⟨w.heap.size, 2, none⟩)), rEq (.slice A' n' c'), (rRec dwF 3 w0.heap.size ds n'), (rCab w0.heap.size D ls ds n n')] (by kernel_rfl) (by kernel_rfl) (by decide) rfl ⟨?_, ?_, ?_, ?_, ?_, ?_, ?_, ?_, ?_, ?_, ?_, trivial⟩ ?_
  · intro ac wx hf hb hd -- 0
    have f1 : ac.tmps[1]?.getD undef = .pointer (some ⟨w.heap.size, 0, none⟩) := by rw [← Array.getD_eq_getD_getElem?]; exact hf.same 1 (by decide)
    exact rstep_eq (by simp [execOp, Act.eval, f1, go_sem]) rfl
  · intro ac wx hf hb hd -- 1
    have d0 : ac.tmps[3]?.getD undef = .pointer (some ⟨w.heap.size, 0, none⟩) := by rw [← Array.getD_eq_getD_getElem?]; exact hd 0 (by decide)
    obtain ⟨c0, c1, c2, c3, c4, c5, z1_0, z1_1, z1_2⟩ := HC.out wx hb
    exact rstep_eq (by simp [execOp, Act.eval, d0, c0, go_sem]) rfl
  · intro ac wx hf hb hd -- 2
    exact rstep_new (ob := .cells #[] 176) (by simp [execOp, Act.eval, go_sem]) rfl
  · intro ac wx hf hb hd -- 3
    have f1 : ac.tmps[1]?.getD undef = .pointer (some ⟨w.heap.size, 0, none⟩) := by rw [← Array.getD_eq_getD_getElem?]; exact hf.same 1 (by decide)
    exact rstep_eq (by simp [execOp, Act.eval, f1, go_sem]) rfl
  · intro ac wx hf hb hd -- 4
    have d3 : ac.tmps[6]?.getD undef = .pointer (some ⟨w.heap.size, 1, none⟩) := by rw [← Array.getD_eq_getD_getElem?]; exact hd 3 (by decide)
    obtain ⟨c0, c1, c2, c3, c4, c5, z1_0, z1_1, z1_2⟩ := HC.out wx hb
    exact rstep_eq (by simp [execOp, Act.eval, d3, c1, go_sem]) rfl
  · intro ac wx hf hb hd -- 5
    obtain ⟨g2, d2⟩ : ∃ g, ac.tmps[5]?.getD undef = .slice (some ⟨g, 0, none⟩) 0 0 := by rw [← Array.getD_eq_getD_getElem?]; exact hd 2 (by decide)
    have d4 : ac.tmps[7]?.getD undef = .slice A n c := by rw [← Array.getD_eq_getD_getElem?]; exact hd 4 (by decide)
    exact rstep_copyr (f := lpF) (sz := 2) (fun _ => rfl) (by decide) (by decide) infoLp Try.underlying116 (B := w0.heap.size) (g := g2) (A := A) (c := c) (n := n) (l := ls) hb.size rfl (by simp [Act.eval, d2]) (by simp [Act.eval, d4]) (lp_rec.2 (HR1.out.below (HB0.out.trans (hb.mono HB0.out.size)))) hn rfl
  · intro ac wx hf hb hd -- 6
    exact rstep_new (ob := .cells #[] 178) (by simp [execOp, Act.eval, go_sem]) rfl
  · intro ac wx hf hb hd -- 7
    have f1 : ac.tmps[1]?.getD undef = .pointer (some ⟨w.heap.size, 0, none⟩) := by rw [← Array.getD_eq_getD_getElem?]; exact hf.same 1 (by decide)
    exact rstep_eq (by simp [execOp, Act.eval, f1, go_sem]) rfl
  · intro ac wx hf hb hd -- 8
    have d7 : ac.tmps[10]?.getD undef = .pointer (some ⟨w.heap.size, 2, none⟩) := by rw [← Array.getD_eq_getD_getElem?]; exact hd 7 (by decide)
    obtain ⟨c0, c1, c2, c3, c4, c5, z1_0, z1_1, z1_2⟩ := HC.out wx hb
    exact rstep_eq (by simp [execOp, Act.eval, d7, c2, go_sem]) rfl
  · intro ac wx hf hb hd -- 9
    obtain ⟨g6, d6⟩ : ∃ g, ac.tmps[9]?.getD undef = .slice (some ⟨g, 0, none⟩) 0 0 := by rw [← Array.getD_eq_getD_getElem?]; exact hd 6 (by decide)
    have d8 : ac.tmps[11]?.getD undef = .slice A' n' c' := by rw [← Array.getD_eq_getD_getElem?]; exact hd 8 (by decide)
    exact rstep_copyr (f := dwF) (sz := 3) (fun _ => rfl) (by decide) (by decide) infoDw Try.underlying117 (B := w0.heap.size) (g := g6) (A := A') (c := c') (n := n') (l := ds) hb.size rfl (by simp [Act.eval, d6]) (by simp [Act.eval, d8]) (dw_rec.2 (HR2.out.below (HB0.out.trans (hb.mono HB0.out.size)))) hn' rfl
  · intro ac wx hf hb hd -- 10
    have d1 : ac.tmps[4]?.getD undef = .int .i64 D := by rw [← Array.getD_eq_getD_getElem?]; exact hd 1 (by decide)
    obtain ⟨A5, cc5, d5, r5, b5⟩ : ∃ A c, ac.tmps[8]?.getD undef = .slice A n c ∧ RecRow lpF 2 wx A n ls ∧ (0 < n → ∀ a, A = some a → w0.heap.size ≤ a.block) := by rw [← Array.getD_eq_getD_getElem?]; exact hd 5 (by decide)
    obtain ⟨A9, cc9, d9, r9, b9⟩ : ∃ A c, ac.tmps[12]?.getD undef = .slice A n' c ∧ RecRow dwF 3 wx A n' ds ∧ (0 < n' → ∀ a, A = some a → w0.heap.size ≤ a.block) := by rw [← Array.getD_eq_getD_getElem?]; exact hd 9 (by decide)
    exact rstep_cab (B := w0.heap.size) (A := A5) (c := cc5) (A' := A9) (c' := cc9) (by simp [execOp, Act.eval, d1, d5, d9, cbV, go_sem]) r5 r9 b5 b9 rfl
  rintro ⟨⟨ll⟩, df⟩ wx hf hb hall
  have hdf : df = [] := hf.defers
  subst hdf
  have hsz : ll.length = 14 := hf.size
  obtain ⟨x0, ll0, rfl, hsz0⟩ := cons_of hsz
  obtain ⟨x1, ll1, rfl, hsz1⟩ := cons_of hsz0
  obtain ⟨x2, ll2, rfl, hsz2⟩ := cons_of hsz1
  obtain ⟨x3, ll3, rfl, hsz3⟩ := cons_of hsz2
  obtain ⟨x4, ll4, rfl, hsz4⟩ := cons_of hsz3
  obtain ⟨x5, ll5, rfl, hsz5⟩ := cons_of hsz4
  obtain ⟨x6, ll6, rfl, hsz6⟩ := cons_of hsz5
  obtain ⟨x7, ll7, rfl, hsz7⟩ := cons_of hsz6
  obtain ⟨x8, ll8, rfl, hsz8⟩ := cons_of hsz7
  obtain ⟨x9, ll9, rfl, hsz9⟩ := cons_of hsz8
  obtain ⟨x10, ll10, rfl, hsz10⟩ := cons_of hsz9
  obtain ⟨x11, ll11, rfl, hsz11⟩ := cons_of hsz10
  obtain ⟨x12, ll12, rfl, hsz12⟩ := cons_of hsz11
  obtain ⟨x13, ll13, rfl, hsz13⟩ := cons_of hsz12
  obtain rfl := List.eq_nil_of_length_eq_zero hsz13
  obtain rfl : x1 = .pointer (some ⟨w.heap.size, 0, none⟩) := hf.same 1 (by decide)
  obtain rfl : x2 = .pointer (some ⟨w.heap.size + 1, 0, none⟩) := hf.same 2 (by decide)
  obtain rfl : x3 = .pointer (some ⟨w.heap.size, 0, none⟩) := hall 0 3 rfl
  obtain rfl : x4 = .int .i64 D := hall 1 4 rfl
  obtain rfl : x6 = .pointer (some ⟨w.heap.size, 1, none⟩) := hall 3 6 rfl
  obtain rfl : x7 = .slice A n c := hall 4 7 rfl
  obtain rfl : x10 = .pointer (some ⟨w.heap.size, 2, none⟩) := hall 7 10 rfl
  obtain rfl : x11 = .slice A' n' c' := hall 8 11 rfl
  obtain ⟨B1, b1, B2, b2, rfl, row1, row2, far1, far2⟩ : ∃ A c A' c', x13 = cbV D A n c A' n' c' ∧ RecRow lpF 2 wx A n ls ∧ RecRow dwF 3 wx A' n' ds ∧ (0 < n → ∀ a, A = some a → w0.heap.size ≤ a.block) ∧ (0 < n' → ∀ a, A' = some a → w0.heap.size ≤ a.block) := hall 10 13 rfl
  clear hall hf
  intro o ho
  have ho2 : _ = o := Option.some.inj ho
  subst ho2
  clear ho
  obtain ⟨c0, c1, c2, c3, c4, c5, z1_0, z1_1, z1_2⟩ := HC.out wx hb
  have HX := Lib.hid (HB0.out.trans (hb.mono HB0.out.size))
  have HW1 := Lib.hid row1
  have HW2 := Lib.hid row2
  have hw0 : w.heap.size + 1 < w0.heap.size := World.block_lt_of_cell? w0 _ (HC.out w0 (Below.refl _ _)).2.2.2.1
  simp [Oper.wp, Oper.upon, execOp, Act.eval, go_sem, cbV, c3, c4, c5, z1_0, z1_1, z1_2]
  go_wp2
  have f1 : 0 < n → ∀ a, B1 = some a → a.block ≠ w.heap.size + 1 := fun h a e => by have := far1 h a e; omega
  have f2 : 0 < n' → ∀ a, B2 = some a → a.block ≠ w.heap.size + 1 := fun h a e => by have := far2 h a e; omega
  refine bodyPost_ret (v := .agg #[.int .i64 D, .slice B1 n b1, .slice B2 n' b2]) (by simp [results, Try.results72, go_sem, c3, c4, c5]) rfl ⟨B1, b1, B2, b2, rfl, lp_rec.1 (rec_other (rec_other (rec_other HW1.out f1) f1) f1), dw_rec.1 (rec_other (rec_other (rec_other HW2.out f2) f2) f2), ?_⟩
  exact ((HX.out.setCell (p := ⟨w.heap.size + 1, 0, none⟩) (by simp) _).setCell (p := ⟨w.heap.size + 1, 1, none⟩) (by simp) _).setCell (p := ⟨w.heap.size + 1, 2, none⟩) (by simp) _
theorem large_any {D : Int} {A A' : Option Addr} {n c n' c' : Nat} (w : World) :
    Calls Try.prog 70 #[cbV D A n c A' n' c'] w fun e w' => e = .returned (.bool (decide ((14 : Int) < (n : Int)) || decide ((14 : Int) < (n' : Int)))) ∧ Below w.heap.size w w' := by
  unfold cbV
  by_cases h1 : (14 : Int) < (n : Int)
  · have d1 : decide ((14 : Int) < (n : Int)) = true := decide_eq_true h1
    go_enter Try.func70, Try.ntmps70
    go_wp2
    go_ret
    exact ⟨ret_bool (by first | rfl | (rw [d1]; rfl)), (Below.refl _ _).alloc (Nat.le_refl _) _⟩
  · have d1 : decide ((14 : Int) < (n : Int)) = false := decide_eq_false h1
    by_cases h2 : (14 : Int) < (n' : Int)
    · have d2 : decide ((14 : Int) < (n' : Int)) = true := decide_eq_true h2
      go_enter Try.func70, Try.ntmps70
      go_wp2
      go_ret
      exact ⟨ret_bool (by first | rfl | (rw [d1, d2]; rfl)), (Below.refl _ _).alloc (Nat.le_refl _) _⟩
    · have d2 : decide ((14 : Int) < (n' : Int)) = false := decide_eq_false h2
      go_enter Try.func70, Try.ntmps70
      go_wp2
      go_ret
      exact ⟨ret_bool (by first | rfl | (rw [d1, d2]; rfl)), (Below.refl _ _).alloc (Nat.le_refl _) _⟩
end Go.Proofs.Ytablphoicidlkaa
namespace Go.Proofs.Ytablphoicidlkaa
open Go.RowKit

set_option maxHeartbeats 8000000 in
set_option maxRecDepth 20000 in
theorem cab_many {D : Int} {A A' A3 : Option Addr} {n c n' c' n3 c3 : Nat} (h : 14 < n ∨ 14 < n' ∨ 20 < n3) (w : World) :
    Calls Try.prog 14 #[.agg #[.int .i64 D, .slice A n c, .slice A' n' c'], .slice A3 n3 c3] w fun e w' => e = .returned (.bool true) ∧ Below w.heap.size w w' := by
  have AW := fun wx => Lib.hid (awake_any wx)
  have LG := fun wx => Lib.hid (large_any (D := D) (A := A) (A' := A') (n := n) (c := c) (n' := n') (c' := c') wx)
  unfold cbV at LG
  obtain ⟨lb, hlb⟩ : ∃ lb, (decide ((14 : Int) < (n : Int)) || decide ((14 : Int) < (n' : Int))) = lb := ⟨_, rfl⟩
  rw [hlb] at LG
  have hx : lb = true ∨ (lb = false ∧ 20 < n3) := by
    cases lb
    · right
      rw [Bool.or_eq_false_iff, decide_eq_false_iff_not, decide_eq_false_iff_not] at hlb
      exact ⟨rfl, by omega⟩
    · exact .inl rfl
  clear hlb h
  go_enter Try.func14, Try.ntmps14
  go_upto_region 1 with fail
  obtain ⟨w0, hw0⟩ : ∃ w0, (w.alloc (.cells #[.int .i64 D, .slice A n c, .slice A' n' c'] 119)) = w0 := ⟨_, rfl⟩
  have HB0 : Hid (Below w.heap.size w w0) := Lib.hid (by rw [← hw0]; exact ((Below.refl _ _).alloc (Nat.le_refl _) _))
  have HC := Lib.hid (fun wx (hb : Below w0.heap.size w0 wx) => (show wx.cell? ⟨w.heap.size, 0, none⟩ = some (.int .i64 D) ∧ wx.cell? ⟨w.heap.size, 1, none⟩ = some (.slice A n c) ∧ wx.cell? ⟨w.heap.size, 2, none⟩ = some (.slice A' n' c') from by
    subst hw0
    obtain ⟨k, kf⟩ := bcell hb
    exact ⟨(k _ _ (by simp; try omega)).trans (by simp [go_sem]), (k _ _ (by simp; try omega)).trans (by simp [go_sem]), (k _ _ (by simp; try omega)).trans (by simp [go_sem])⟩))
  rw [hw0]
  clear hw0
  go_upto_region 3 with (go_at_call 19; (refine Calls.mono (AW _).out ?_); rintro e w1 ⟨rfl, hb⟩; have H1 := Lib.hid hb; clear hb)
  obtain ⟨c0, c1, c2⟩ := HC.out w1 H1.out
  rcases hx with rfl | ⟨rfl, h3⟩
  · go_wp2_with (go_at_call 70; (with_reducible refine Calls.mono (LG _).out ?_); rintro e w2 ⟨rfl, hb⟩; have H2 := Lib.hid (H1.out.trans (hb.mono H1.out.size)); clear hb)
    go_ret
    exact ⟨rfl, HB0.out.trans (H2.out.mono HB0.out.size)⟩
  · have g1 : (20 : Int) < (n3 : Int) := by omega
    have g2 : decide ((20 : Int) < (n3 : Int)) = true := decide_eq_true g1
    go_wp2_with (go_at_call 70; (with_reducible refine Calls.mono (LG _).out ?_); rintro e w2 ⟨rfl, hb⟩; have H2 := Lib.hid (H1.out.trans (hb.mono H1.out.size)); clear hb)
    go_ret
    exact ⟨rfl, HB0.out.trans (H2.out.mono HB0.out.size)⟩
set_option maxHeartbeats 8000000 in
set_option maxRecDepth 20000 in
theorem cab_law {D : Int} {A A' A3 : Option Addr} {n c n' c' n3 c3 : Nat} {ls : List Lp} {ds : List Dw} {op : List Int} {bv ev e0 eo : Int} (h1 : n ≤ 14) (h2 : n' ≤ 14) (h3 : n3 ≤ 20) (w : World) (R1 : LpRow w A n ls) (R2 : DwRow w A' n' ds) (R3 : IntRow w A3 n3 op)
    (BA : ∀ B1 b1 B2 b2 B3 b3 wx, LpRow wx B1 n ls → DwRow wx B2 n' ds → IntRow wx B3 n3 op → Calls Try.prog 71 #[.agg #[.int .i64 D, .slice B1 n b1, .slice B2 n' b2], .slice B3 n3 b3] wx fun e w' => e = .returned (.tuple #[.int .i64 bv, .int .i64 ev]) ∧ Below wx.heap.size wx w')
    (CC : ∀ B1 b1 B2 b2 wx, LpRow wx B1 n ls → DwRow wx B2 n' ds → Calls Try.prog 75 #[.agg #[.int .i64 D, .slice B1 n b1, .slice B2 n' b2]] wx fun e w' => e = .returned (.int .i64 e0) ∧ Below wx.heap.size wx w')
    (RC : ∀ wx, Below w.heap.size w wx → Calls Try.prog 74 #[.agg #[.int .i64 D, .slice A n c, .slice A' n' c']] wx fun e w' => e = .returned (.int .i64 e0) ∧ Below wx.heap.size wx w')
    (RO : ∀ wx, Below w.heap.size w wx → Calls Try.prog 76 #[.agg #[.int .i64 D, .slice A n c, .slice A' n' c'], .slice A3 n3 c3] wx fun e w' => e = .returned (.int .i64 eo) ∧ Below wx.heap.size wx w')
    (RB : e0 = 0 → eo = 0 → ∀ wx, Below w.heap.size w wx → Calls Try.prog 77 #[.agg #[.int .i64 D, .slice A n c, .slice A' n' c'], .slice A3 n3 c3] wx fun e w' => e = .returned (.int .i64 bv) ∧ Below wx.heap.size wx w')
    (H : (e0 ≠ 0 ∧ ev = e0 ∧ bv = 0) ∨ (e0 = 0 ∧ eo ≠ 0 ∧ ev = eo ∧ bv = 0) ∨ (e0 = 0 ∧ eo = 0 ∧ ev = 0)) :
    Calls Try.prog 14 #[.agg #[.int .i64 D, .slice A n c, .slice A' n' c'], .slice A3 n3 c3] w fun e w' => e = .returned (.bool true) ∧ Below w.heap.size w w' := by
  have AW := fun wx => Lib.hid (awake_any wx)
  have LG := fun wx => Lib.hid (large_any (D := D) (A := A) (A' := A') (n := n) (c := c) (n' := n') (c' := c') wx)
  have hlb : (decide ((14 : Int) < (n : Int)) || decide ((14 : Int) < (n' : Int))) = false := by rw [Bool.or_eq_false_iff, decide_eq_false_iff_not, decide_eq_false_iff_not]; omega
  rw [hlb] at LG
  have CB := Lib.hid (fun wx (hx : Below w.heap.size w wx) => cabinet_any (D := D) (c := c) (c' := c') (by omega) (by omega) wx (R1.below hx) (R2.below hx))
  have CI := Lib.hid (fun wx (hx : Below w.heap.size w wx) => copyInts_any (c := c3) (by omega) wx (R3.below hx))
  have HBA := Lib.hid BA
  have HCC := Lib.hid CC
  have HRC := Lib.hid RC
  have HRO := Lib.hid RO
  have HRB := Lib.hid RB
  have HH := Lib.hid H
  unfold cbV at LG CB
  clear BA CC RC RO RB H R1 R2 R3 hlb
  have g1 : ¬ (20 : Int) < (n3 : Int) := by omega
  have g2 : decide ((20 : Int) < (n3 : Int)) = false := decide_eq_false g1
  go_enter Try.func14, Try.ntmps14
  go_upto_region 1 with fail
  obtain ⟨w0, hw0⟩ : ∃ w0, (w.alloc (.cells #[.int .i64 D, .slice A n c, .slice A' n' c'] 119)) = w0 := ⟨_, rfl⟩
  have HB0 : Hid (Below w.heap.size w w0) := Lib.hid (by rw [← hw0]; exact ((Below.refl _ _).alloc (Nat.le_refl _) _))
  have HC := Lib.hid (fun wx (hb : Below w0.heap.size w0 wx) => (show wx.cell? ⟨w.heap.size, 0, none⟩ = some (.int .i64 D) ∧ wx.cell? ⟨w.heap.size, 1, none⟩ = some (.slice A n c) ∧ wx.cell? ⟨w.heap.size, 2, none⟩ = some (.slice A' n' c') from by
    subst hw0
    obtain ⟨k, kf⟩ := bcell hb
    exact ⟨(k _ _ (by simp; try omega)).trans (by simp [go_sem]), (k _ _ (by simp; try omega)).trans (by simp [go_sem]), (k _ _ (by simp; try omega)).trans (by simp [go_sem])⟩))
  rw [hw0]
  clear hw0
  go_upto_region 3 with (go_at_call 19; (refine Calls.mono (AW _).out ?_); rintro e w1 ⟨rfl, hb⟩; have H1 := Lib.hid hb; clear hb)
  obtain ⟨c0, c1, c2⟩ := HC.out w1 H1.out
  go_upto_region 5 with (go_at_call 70; (with_reducible refine Calls.mono (LG _).out ?_); rintro e w2 ⟨rfl, hb⟩; have H2 := Lib.hid (H1.out.trans (hb.mono H1.out.size)); clear hb)
  have W2 := Lib.hid (HB0.out.trans (H2.out.mono HB0.out.size))
  clear c0 c1 c2
  obtain ⟨c0, c1, c2⟩ := HC.out w2 H2.out
  go_upto_region 6 with (first | (go_at_call 72; (with_reducible refine Calls.mono (CB.out _ W2.out) ?_); rintro e w3 ⟨B1, b1, B2, b2, rfl, r1, r2, hb⟩; have W3 := Lib.hid (W2.out.trans (hb.mono W2.out.size)); have H3 := Lib.hid (H2.out.trans (hb.mono H2.out.size)); have Q1 := Lib.hid r1; have Q2 := Lib.hid r2; clear hb r1 r2) | (go_at_call 73; (with_reducible refine Calls.mono (CI.out _ W3.out) ?_); rintro e w4 ⟨B3, b3, rfl, r3, hb⟩; have W4 := Lib.hid (W3.out.trans (hb.mono W3.out.size)); have H4 := Lib.hid (H3.out.trans (hb.mono H3.out.size)); have Q1b := Lib.hid (Q1.out.below hb); have Q2b := Lib.hid (Q2.out.below hb); have Q3 := Lib.hid r3; clear hb r3) | (go_at_call 71; (with_reducible refine Calls.mono (HBA.out _ _ _ _ _ _ _ Q1b.out Q2b.out Q3.out) ?_); rintro e w5 ⟨rfl, hb⟩; have W5 := Lib.hid (W4.out.trans (hb.mono W4.out.size)); have H5 := Lib.hid (H4.out.trans (hb.mono H4.out.size)); clear hb) | fail)
  clear c0 c1 c2
  obtain ⟨c0, c1, c2⟩ := HC.out w5 H5.out
  go_upto_region 7 with (go_at_call 74; (with_reducible refine Calls.mono (HRC.out _ W5.out) ?_); rintro e w6 ⟨rfl, hb⟩; have W6 := Lib.hid (W5.out.trans (hb.mono W5.out.size)); have H6 := Lib.hid (H5.out.trans (hb.mono H5.out.size)); clear hb)
  clear c0 c1 c2
  obtain ⟨c0, c1, c2⟩ := HC.out w6 H6.out
  have hne : (e0 != e0) = false := by simp
  go_upto_region 9 with (first | (go_at_call 72; (with_reducible refine Calls.mono (CB.out _ W6.out) ?_); rintro e w7 ⟨D1, d1, D2, d2, rfl, r1, r2, hb⟩; have W7 := Lib.hid (W6.out.trans (hb.mono W6.out.size)); have H7 := Lib.hid (H6.out.trans (hb.mono H6.out.size)); have Q4 := Lib.hid r1; have Q5 := Lib.hid r2; clear hb r1 r2) | (go_at_call 75; (with_reducible refine Calls.mono (HCC.out _ _ _ _ _ Q4.out Q5.out) ?_); rintro e w8 ⟨rfl, hb⟩; have W8 := Lib.hid (W7.out.trans (hb.mono W7.out.size)); have H8 := Lib.hid (H7.out.trans (hb.mono H7.out.size)); clear hb) | fail)
  clear c0 c1 c2
  obtain ⟨c0, c1, c2⟩ := HC.out w8 H8.out
  rcases HH.out with ⟨hz, rfl, rfl⟩ | ⟨rfl, hz, rfl, rfl⟩ | ⟨rfl, rfl, rfl⟩
  · have f1 : (ev == 0) = false := by simpa using hz
    have f2 : (ev != 0) = true := by simpa using hz
    go_wp2
    go_ret
    exact ⟨ret_bool (by simp), W8.out⟩
  · have f1 : (ev == 0) = false := by simpa using hz
    have f2 : (ev != 0) = true := by simpa using hz
    go_wp2_with (go_at_call 76; (with_reducible refine Calls.mono (HRO.out _ W8.out) ?_); rintro e w9 ⟨rfl, hb⟩; have W9 := Lib.hid (W8.out.trans (hb.mono W8.out.size)); have H9 := Lib.hid (H8.out.trans (hb.mono H8.out.size)); clear hb; clear c0 c1 c2; obtain ⟨c0, c1, c2⟩ := HC.out w9 H9.out)
    go_ret
    exact ⟨ret_bool (by simp), W9.out⟩
  · have RB1 := HRB.out rfl rfl
    have RB2 := Lib.hid RB1
    clear RB1
    go_wp2_with (first | (go_at_call 76; (with_reducible refine Calls.mono (HRO.out _ W8.out) ?_); rintro e w9 ⟨rfl, hb⟩; have W9 := Lib.hid (W8.out.trans (hb.mono W8.out.size)); have H9 := Lib.hid (H8.out.trans (hb.mono H8.out.size)); clear hb; clear c0 c1 c2; obtain ⟨c0, c1, c2⟩ := HC.out w9 H9.out) | (go_at_call 77; (with_reducible refine Calls.mono (RB2.out _ W9.out) ?_); rintro e wa ⟨rfl, hb⟩; have WA := Lib.hid (W9.out.trans (hb.mono W9.out.size)); clear hb) | fail)
    go_ret
    exact ⟨ret_bool (by simp), WA.out⟩
theorem cab_walk (D : Int) (A : Option Addr) (n c : Nat) (ls : List Lp) (A' : Option Addr) (n' c' : Nat) (ds : List Dw) (A3 : Option Addr) (n3 c3 : Nat) (op : List Int) (hn : n ≤ maxLen) (hn' : n' ≤ maxLen) (_hn3 : n3 ≤ maxLen) (w : World) (R1 : LpRow w A n ls) (R2 : DwRow w A' n' ds) (R3 : IntRow w A3 n3 op) :
    Calls Try.prog 14 #[cbV D A n c A' n' c', .slice A3 n3 c3] w fun e w' => e = .returned (.bool true) ∧ Below w.heap.size w w' := by
  by_cases hm : 14 < n ∨ 14 < n' ∨ 20 < n3
  · exact cab_many hm w
  have h3 : n3 ≤ 20 := by omega
  have BA := fun B1 b1 B2 b2 B3 b3 wx (r1 : LpRow wx B1 n ls) (r2 : DwRow wx B2 n' ds) (r3 : IntRow wx B3 n3 op) => balance_any (D := D) (c := b1) (c' := b2) (c3 := b3) hn hn' h3 wx r1 r2 r3
  have CC := fun B1 b1 B2 b2 wx (r1 : LpRow wx B1 n ls) (r2 : DwRow wx B2 n' ds) => checkCabinet_any (D := D) (c := b1) (c' := b2) wx r1 r2 hn hn'
  have RC := fun wx (hx : Below w.heap.size w wx) => rcheckCabinet_any (D := D) (c := c) (c' := c') wx (R1.below hx) (R2.below hx) hn hn'
  have RO := fun wx (hx : Below w.heap.size w wx) => rcheckOpen_any (D := D) (A := A) (A' := A') (n := n) (c := c) (c' := c') (c3 := c3) hn' h3 wx (R3.below hx)
  have hE : balE D ls ds op = firstE [cabE D ls ds, opnE op n'] := by unfold balE; rw [R2.1]
  by_cases h0 : cabE D ls ds = 0
  · rw [h0] at hE CC RC
    by_cases ho : opnE op n' = 0
    · have hE2 : balE D ls ds op = 0 := by rw [hE, ho]; rfl
      rw [ho] at RO
      have hbv : balV (balE D ls ds op) (bal D ls ds op) = .tuple #[.int .i64 (bal D ls ds op), .int .i64 0] := by rw [hE2]; rfl
      simp only [hbv] at BA
      have hoo := ho
      rw [← R2.1] at hoo
      have RB := fun wx (hx : Below w.heap.size w wx) => rbalance_any (c := c) (c' := c') (c3 := c3) (cabE_ok h0) (opnE_ok hoo).1 (opnE_ok hoo).2 h3 wx (R1.below hx) (R2.below hx) (R3.below hx)
      exact cab_law (by omega) (by omega) h3 w R1 R2 R3 BA CC RC RO (fun _ _ => RB) (.inr (.inr ⟨rfl, rfl, rfl⟩))
    · have hd : (opnE op n' == 0) = false := by simpa using ho
      have hE2 : balE D ls ds op = opnE op n' := by rw [hE, firstE_cons, firstE_cons, hd]; rfl
      have hbv : balV (balE D ls ds op) (bal D ls ds op) = .tuple #[.int .i64 0, .int .i64 (opnE op n')] := by rw [hE2]; unfold balV; rw [hd]; rfl
      simp only [hbv] at BA
      exact cab_law (by omega) (by omega) h3 w R1 R2 R3 BA CC RC RO (fun _ h => absurd h ho) (.inr (.inl ⟨rfl, ho, rfl, rfl⟩))
  · have hd : (cabE D ls ds == 0) = false := by simpa using h0
    have hE2 : balE D ls ds op = cabE D ls ds := by rw [hE, firstE_cons, hd]; rfl
    have hbv : balV (balE D ls ds op) (bal D ls ds op) = .tuple #[.int .i64 0, .int .i64 (cabE D ls ds)] := by rw [hE2]; unfold balV; rw [hd]; rfl
    simp only [hbv] at BA
    exact cab_law (by omega) (by omega) h3 w R1 R2 R3 BA CC RC RO (fun h => absurd h h0) (.inl ⟨h0, rfl, rfl⟩)
end Go.Proofs.Ytablphoicidlkaa
