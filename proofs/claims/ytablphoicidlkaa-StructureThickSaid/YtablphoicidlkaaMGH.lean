/- Rows of points that grow, burdens that are copied. -/
import Derived.Test.YtablphoicidlkaaCF
import Derived.Test.YtablphoicidlkaaBG
import Derived.Test.YtablphoicidlkaaMGA
import Derived.Test.YtablphoicidlkaaCA
import Derived.Test.YtablphoicidlkaaMGO
namespace Go.Proofs.Ytablphoicidlkaa
open Go.RowKit

theorem wpList_append_pts {w : World} {ops : Array Oper} {rest : List Oper} {o : Oper} {a : Act} {Q : Exit → Act → World → Prop} (hgd : o.guard = none) (s x : Operand)
    (ho : o.op = .call { callee := .builtin .append, args := #[s, x], argTypes := #[24, 24] })
    {base : Nat} {v : Value} {n m c : Nat} {xs : List Value} {A : Option Addr} {l : List Pt} (hs : a.eval s = v) (hx : a.eval x = .slice A m c) (hown : w.ownsRow base 90 2 v n xs) (hrow : PtRow w A m l) (hlen : n + m ≤ 1000000) (hbase : base ≤ w.heap.size)
    (h : ∀ v' w', w'.ownsRow base 90 2 v' (n + m) (xs ++ flatP l) → w.grownBy w' v.ownBlock → (v'.ownBlock = v.ownBlock ∨ v'.ownBlock = some w.heap.size) → wpList Try.prog ops Q rest (a.put o.dst v') w') :
    wpList Try.prog ops Q (o :: rest) a w := by
  refine wpList_plain hgd fun K hK => ?_
  obtain ⟨v', w', hr, h2, h3, h5⟩ := run_append_pts (c := c) o.type hown hrow hlen hbase
  unfold Oper.wp execOp
  simp only [ho, resolve, invoke, builtin, Sem.run_bind, Sem.run_pure, Result.andThen_ok, List.map_toArray, List.map_cons, List.map_nil, hs, hx, hr]
  exact hK _ _ (h v' w' h2 h3 h5)
theorem below_ownP {B : Nat} {a w w' : World} {v : Value} {n : Nat} {xs : List Value} (hb : Below B a w) (hB : B ≤ w.heap.size) (hown : w.ownsRow B 90 2 v n xs) (hg : w.grownBy w' v.ownBlock) : Below B a w' :=
  hb.grown hg hB (fun j hj => (hown.lt j hj).1)
theorem set_belowP {w : World} {base : Nat} {v : Value} {n : Nat} {xs : List Value} (h : w.ownsRow base 90 2 v n xs) {a : Addr} (ha : a.block < base) (u : Value) : (w.setCell a u).ownsRow base 90 2 v n xs := by
  refine ⟨h.1, ?_⟩
  rcases h.2 with h0 | ⟨g, cap, cur, e, hb, hh, hr⟩
  · exact .inl h0
  · refine .inr ⟨g, cap, cur, e, hb, ?_, hr⟩
    have hne : a.block ≠ g := by omega
    simp only [World.setCell, Array.getElem?_modify]
    rw [if_neg hne]
    exact hh
theorem flatP_append (a b : List Pt) : flatP (a ++ b) = flatP a ++ flatP b := by
  induction a with
  | nil => rfl
  | cons p r ih => show _ :: _ :: flatP (r ++ b) = _; rw [ih]; rfl
theorem ptrow_newq (w : World) (p : Pt) (t : TypeId) : PtRow (w.alloc (.cells #[.int .i64 p.a, .int .i64 p.n] t)) (some ⟨w.heap.size, 0, none⟩) 1 [p] := by
  refine ⟨rfl, fun _ => ⟨w.heap.size, 0, rfl, by simp, fun k hk => ?_⟩⟩
  have hk0 : k = 0 := by simp at hk; omega
  subst hk0
  exact ⟨by simp [go_sem], by simp [go_sem]⟩
theorem rstep_copied {Q : Exit → Act → World → Prop} {L : List RK} {i : Nat} {o : Oper} {a : Act} {w : World} {A : Option Addr} {n c : Nat} {S : Int} {l : List Pt} (hn : n ≤ 1000000) (hrow : PtRow w A n l) (hr : (execOp a.eval o).run Try.prog w = .ok (.enter 22 #[buV A n c S]) w) (hL : L.getD i rAny = rBur 0 l n S) :
    o.wp Try.prog a w (fun a' w' => ∃ v, a' = a.put o.dst v ∧ Below w.heap.size w w' ∧ rkF L i v w') Q := by
  unfold Oper.wp
  rw [hr]
  refine (copied_any hn w hrow).mono fun e w' ⟨A', c', he, hp, hb⟩ => ?_
  subst he
  exact ⟨_, rfl, hb, by unfold rkF; rw [hL]; exact ⟨A', c', rfl, hp, fun _ _ _ => Nat.zero_le _⟩⟩
def rPtr0 (B : Nat) : RK := ⟨fun v w => ∃ blk, v = .pointer (some ⟨blk, 0, none⟩) ∧ B ≤ blk ∧ blk < w.heap.size ∧ w.cell? ⟨blk, 0, none⟩ = some (.int .i64 0) ∧ w.cell? ⟨blk, 1, none⟩ = some (.int .i64 0) ∧ w.frozen? ⟨blk, 0, none⟩ = false ∧ w.frozen? ⟨blk, 1, none⟩ = false, fun _ _ _ hb ⟨blk, e, h0, h1, h2, h3, h4, h5⟩ => ⟨blk, e, h0, Nat.lt_of_lt_of_le h1 hb.size, ((bcell hb).1 _ _ h1).trans h2, ((bcell hb).1 _ _ h1).trans h3, ((bcell hb).2 _ _ h1).trans h4, ((bcell hb).2 _ _ h1).trans h5⟩⟩
theorem rstep_alloc {P : Program} {Q : Exit → Act → World → Prop} {L : List RK} {i : Nat} {o : Oper} {a : Act} {w : World} {B : Nat} (hB : B ≤ w.heap.size) (hr : (execOp a.eval o).run P w = .ok (.value (.pointer (some ⟨w.heap.size, 0, none⟩))) (w.alloc (.cells #[.int .i64 0, .int .i64 0] 30))) (hL : L.getD i rAny = rPtr0 B) :
    o.wp P a w (fun a' w' => ∃ v, a' = a.put o.dst v ∧ Below w.heap.size w w' ∧ rkF L i v w') Q := by
  unfold Oper.wp
  rw [hr]
  exact ⟨_, rfl, (Below.refl _ _).alloc (Nat.le_refl _) _, by unfold rkF; rw [hL]; exact ⟨_, rfl, hB, by simp, by simp [go_sem], by simp [go_sem], by simp [go_sem], by simp [go_sem]⟩⟩
end Go.Proofs.Ytablphoicidlkaa
namespace Go.Proofs.Ytablphoicidlkaa
open Go.RowKit

set_option maxHeartbeats 4000000 in
set_option maxRecDepth 20000 in
theorem check_any {b : Bm} {x : Wd} {A : Option Addr} {n c : Nat} {S ra : Int} {l : List Pt} (hn : n ≤ maxLen) (w : World) (h : PtRow w A n l) :
    Calls Try.prog 56 #[bmV b, shV x A n c S ra] w fun e w' => e = .returned (.int .i64 (hldE b x l S ra)) ∧ Below w.heap.size w w' := by
  have CB := Lib.hid (fun wx (hx : Below w.heap.size w wx) => rcheckBurden_any (b := b) (c := c) (S := S) wx (h.below hx) hn)
  have CW := fun wx => Lib.hid (rcheckWood_any x wx)
  have WI := fun wx => Lib.hid (within_any ra 1 1000 wx)
  have HE : Hid (hldE b x l S ra = firstE [burE b l S, woodE x, rngE 1 1000 [ra]]) := Lib.hid rfl
  rw [rng_wi] at HE
  clear h hn
  obtain ⟨s, ww, t, en⟩ := b
  obtain ⟨lo, hi, st⟩ := x
  unfold bmV wdV shV buV at *
  simp only at CB CW HE ⊢
  generalize hldE ⟨s, ww, t, en⟩ ⟨lo, hi, st⟩ l S ra = ee at *
  generalize burE ⟨s, ww, t, en⟩ l S = e1 at *
  generalize woodE ⟨lo, hi, st⟩ = e2 at *
  generalize wiB ra 1 1000 = wb at *
  go_enter Try.func56, Try.ntmps56
  go_upto_region 1 with fail
  obtain ⟨w0, hw0⟩ : ∃ w0, ((w.alloc (.cells #[.int .i64 s, .int .i64 ww, .int .i64 t, .int .i64 en] 23)).alloc (.cells #[.int .i64 lo, .int .i64 hi, .int .i64 st, .slice A n c, .int .i64 S, .int .i64 ra] 81)) = w0 := ⟨_, rfl⟩
  have HB0 : Hid (Below w.heap.size w w0) := Lib.hid (by rw [← hw0]; exact (((Below.refl _ _).alloc (Nat.le_refl _) _).alloc (by simp; try omega) _))
  have HC := Lib.hid (fun wx (hb : Below w0.heap.size w0 wx) => (show wx.cell? ⟨w.heap.size, 0, none⟩ = some (.int .i64 s) ∧ wx.cell? ⟨w.heap.size, 1, none⟩ = some (.int .i64 ww) ∧ wx.cell? ⟨w.heap.size, 2, none⟩ = some (.int .i64 t) ∧ wx.cell? ⟨w.heap.size, 3, none⟩ = some (.int .i64 en) ∧ wx.cell? ⟨w.heap.size + 1, 0, none⟩ = some (.int .i64 lo) ∧ wx.cell? ⟨w.heap.size + 1, 1, none⟩ = some (.int .i64 hi) ∧ wx.cell? ⟨w.heap.size + 1, 2, none⟩ = some (.int .i64 st) ∧ wx.cell? ⟨w.heap.size + 1, 3, none⟩ = some (.slice A n c) ∧ wx.cell? ⟨w.heap.size + 1, 4, none⟩ = some (.int .i64 S) ∧ wx.cell? ⟨w.heap.size + 1, 5, none⟩ = some (.int .i64 ra) from by
    subst hw0
    obtain ⟨k, kf⟩ := bcell hb
    exact ⟨(k _ _ (by simp; try omega)).trans (by simp [go_sem]), (k _ _ (by simp; try omega)).trans (by simp [go_sem]), (k _ _ (by simp; try omega)).trans (by simp [go_sem]), (k _ _ (by simp; try omega)).trans (by simp [go_sem]), (k _ _ (by simp; try omega)).trans (by simp [go_sem]), (k _ _ (by simp; try omega)).trans (by simp [go_sem]), (k _ _ (by simp; try omega)).trans (by simp [go_sem]), (k _ _ (by simp; try omega)).trans (by simp [go_sem]), (k _ _ (by simp; try omega)).trans (by simp [go_sem]), (k _ _ (by simp; try omega)).trans (by simp [go_sem])⟩))
  rw [hw0]
  clear hw0
  have HZ0 := Lib.hid (Below.refl w0.heap.size w0)
  obtain ⟨c0, c1, c2, c3, c4, c5, c6, c7, c8, c9⟩ := HC.out w0 HZ0.out
  go_upto_region 2 with (go_at_call 23; (with_reducible refine Calls.mono (CB.out _ HB0.out) ?_); rintro e w1 ⟨rfl, hb1⟩; have H1 := Lib.hid hb1; clear hb1)
  clear c0 c1 c2 c3 c4 c5 c6 c7 c8 c9
  obtain ⟨c0, c1, c2, c3, c4, c5, c6, c7, c8, c9⟩ := HC.out w1 H1.out
  have HW1 := Lib.hid (HB0.out.trans (H1.out.mono HB0.out.size))
  by_cases h1 : e1 = 0
  · subst h1
    go_upto_region 5 with (go_at_call 53; (with_reducible refine Calls.mono (CW _).out ?_); rintro e w2 ⟨rfl, hb2⟩; have H2 := Lib.hid (H1.out.trans (hb2.mono H1.out.size)); clear hb2)
    clear c0 c1 c2 c3 c4 c5 c6 c7 c8 c9
    obtain ⟨c0, c1, c2, c3, c4, c5, c6, c7, c8, c9⟩ := HC.out w2 H2.out
    have HW2 := Lib.hid (HB0.out.trans (H2.out.mono HB0.out.size))
    by_cases h2 : e2 = 0
    · subst h2
      have HE2 := HE.out
      clear HE
      cases wb
      all_goals
        have HE3 := Lib.hid HE2
        clear HE2
        go_wp2_with (go_at_call 32; (with_reducible refine Calls.mono (WI _).out ?_); rintro e w3 ⟨rfl, rfl⟩)
        go_ret
        exact ⟨ret_int (by rw [HE3.out]; rfl), HW2.out⟩
    · have d1 : (e2 == 0) = false := by simpa using h2
      have d2 : (e2 != 0) = true := by simpa using h2
      go_wp2
      go_ret
      exact ⟨ret_int (by rw [HE.out, firstE_cons, firstE_cons, d1]; rfl), HW2.out⟩
  · have d1 : (e1 == 0) = false := by simpa using h1
    have d2 : (e1 != 0) = true := by simpa using h1
    go_wp2
    go_ret
    exact ⟨ret_int (by rw [HE.out, firstE_cons, d1]; rfl), HW1.out⟩
set_option maxHeartbeats 8000000 in
set_option maxRecDepth 20000 in
theorem holds_many {s ww t en lo hi st ra : Int} {A : Option Addr} {n c : Nat} {S : Int} (hn : 12 < n) (w : World) :
    Calls Try.prog 10 #[.agg #[.int .i64 s, .int .i64 ww, .int .i64 t, .int .i64 en], .agg #[.int .i64 lo, .int .i64 hi, .int .i64 st, .slice A n c, .int .i64 S, .int .i64 ra]] w fun e w' => e = .returned (.bool true) ∧ Below w.heap.size w w' := by
  have AW := fun wx => Lib.hid (awake_any wx)
  have FE := Lib.hid (fun wx => few_any (A := A) (n := n) (c := c) (S := S) wx)
  have hd : decide (n ≤ 12) = false := decide_eq_false (by omega)
  rw [hd] at FE
  clear hd
  unfold buV at *
  go_enter Try.func10, Try.ntmps10
  go_upto_region 1 with fail
  obtain ⟨w0, hw0⟩ : ∃ w0, ((w.alloc (.cells #[.int .i64 s, .int .i64 ww, .int .i64 t, .int .i64 en] 23)).alloc (.cells #[.int .i64 lo, .int .i64 hi, .int .i64 st, .slice A n c, .int .i64 S, .int .i64 ra] 81)) = w0 := ⟨_, rfl⟩
  have HB0 : Hid (Below w.heap.size w w0) := Lib.hid (by rw [← hw0]; exact (((Below.refl _ _).alloc (Nat.le_refl _) _).alloc (by simp; try omega) _))
  have HC := Lib.hid (fun wx (hb : Below w0.heap.size w0 wx) => (show wx.cell? ⟨w.heap.size, 0, none⟩ = some (.int .i64 s) ∧ wx.cell? ⟨w.heap.size, 1, none⟩ = some (.int .i64 ww) ∧ wx.cell? ⟨w.heap.size, 2, none⟩ = some (.int .i64 t) ∧ wx.cell? ⟨w.heap.size, 3, none⟩ = some (.int .i64 en) ∧ wx.cell? ⟨w.heap.size + 1, 0, none⟩ = some (.int .i64 lo) ∧ wx.cell? ⟨w.heap.size + 1, 1, none⟩ = some (.int .i64 hi) ∧ wx.cell? ⟨w.heap.size + 1, 2, none⟩ = some (.int .i64 st) ∧ wx.cell? ⟨w.heap.size + 1, 3, none⟩ = some (.slice A n c) ∧ wx.cell? ⟨w.heap.size + 1, 4, none⟩ = some (.int .i64 S) ∧ wx.cell? ⟨w.heap.size + 1, 5, none⟩ = some (.int .i64 ra) from by
    subst hw0
    obtain ⟨k, kf⟩ := bcell hb
    exact ⟨(k _ _ (by simp; try omega)).trans (by simp [go_sem]), (k _ _ (by simp; try omega)).trans (by simp [go_sem]), (k _ _ (by simp; try omega)).trans (by simp [go_sem]), (k _ _ (by simp; try omega)).trans (by simp [go_sem]), (k _ _ (by simp; try omega)).trans (by simp [go_sem]), (k _ _ (by simp; try omega)).trans (by simp [go_sem]), (k _ _ (by simp; try omega)).trans (by simp [go_sem]), (k _ _ (by simp; try omega)).trans (by simp [go_sem]), (k _ _ (by simp; try omega)).trans (by simp [go_sem]), (k _ _ (by simp; try omega)).trans (by simp [go_sem])⟩))
  rw [hw0]
  clear hw0
  go_upto_region 3 with (go_at_call 19; (refine Calls.mono (AW _).out ?_); rintro e w1 ⟨rfl, hb1⟩; have H1 := Lib.hid hb1; clear hb1)
  obtain ⟨c0, c1, c2, c3, c4, c5, c6, c7, c8, c9⟩ := HC.out w1 H1.out
  go_wp2_with (go_at_call 20; (refine Calls.mono (FE.out _) ?_); rintro e w2 ⟨rfl, hb2⟩; have H2 := Lib.hid (H1.out.trans (hb2.mono H1.out.size)); clear hb2)
  go_ret
  exact ⟨rfl, HB0.out.trans (H2.out.mono HB0.out.size)⟩
theorem tdiv2_bd {v : Int} (h0 : -20000 ≤ v) (h1 : v ≤ 20000) : -20000 ≤ v.tdiv 2 ∧ v.tdiv 2 ≤ 20000 := by
  rcases Int.le_total 0 v with h | h
  · rw [Int.tdiv_eq_ediv_of_nonneg h]; omega
  · have e : v.tdiv 2 = -((-v).tdiv 2) := by rw [Int.neg_tdiv]; omega
    rw [e, Int.tdiv_eq_ediv_of_nonneg (by omega)]; omega
/-- Ahead of the k-th weight: the first k are not upward, and their halves are listed. -/
def HlfI (w0 : World) (pH n : Nat) (l : List Pt) (hS : Int) (i : Value) (wr : World) : Prop := ∃ (k : Nat) (v : Value), k ≤ n ∧ i = .int .i64 k ∧ Below w0.heap.size w0 wr ∧ wr.cell? ⟨pH, 0, none⟩ = some v ∧ wr.cell? ⟨pH, 1, none⟩ = some (.int .i64 hS) ∧ wr.frozen? ⟨pH, 0, none⟩ = false ∧ pH + 1 ≤ wr.heap.size ∧ wr.ownsRow (pH + 1) 90 2 v k (flatP ((l.take k).map hlfP)) ∧ (∀ p ∈ l.take k, 0 ≤ p.n)
theorem take_stepH {x : Int} {k : Nat} {l : List Pt} {q : Pt} (hk : k < l.length) (hq : l[k] = q) (hx : q.n.tdiv 2 = x) : flatP ((l.take (k + 1)).map hlfP) = flatP ((l.take k).map hlfP) ++ flatP [⟨q.a, x⟩] := by
  rw [List.take_succ_eq_append_getElem hk, List.map_append, flatP_append, hq, ← hx]
  rfl
theorem nonneg_step {k : Nat} {l : List Pt} (hk : k < l.length) (h : ∀ p ∈ l.take k, 0 ≤ p.n) (hv : 0 ≤ (l[k]).n) : ∀ p ∈ l.take (k + 1), 0 ≤ p.n := by
  intro p hp
  rw [List.take_succ_eq_append_getElem hk, List.mem_append] at hp
  rcases hp with hp | hp
  · exact h p hp
  · simp at hp; subst hp; exact hv
set_option maxHeartbeats 16000000 in
set_option maxRecDepth 20000 in
theorem holds_law {s ww t en lo hi st ra : Int} {A : Option Addr} {n c : Nat} {S : Int} {l : List Pt} (hn : n ≤ 12) {aa dz : Int} {hb : Bool}
    (HO : ∀ A c wx, PtRow wx A n l → Calls Try.prog 55 #[.agg #[.int .i64 s, .int .i64 ww, .int .i64 t, .int .i64 en], .agg #[.int .i64 lo, .int .i64 hi, .int .i64 st], buV A n c S, .int .i64 ra] wx fun e w' => e = .returned (.int .i64 aa) ∧ Below wx.heap.size wx w')
    (w : World) (CK : ∀ wx, Below w.heap.size w wx → Calls Try.prog 56 #[.agg #[.int .i64 s, .int .i64 ww, .int .i64 t, .int .i64 en], .agg #[.int .i64 lo, .int .i64 hi, .int .i64 st, .slice A n c, .int .i64 S, .int .i64 ra]] wx fun e w' => e = .returned (.int .i64 dz) ∧ Below wx.heap.size wx w')
    (RH : dz = 0 → ∀ wx, Below w.heap.size w wx → Calls Try.prog 57 #[.agg #[.int .i64 s, .int .i64 ww, .int .i64 t, .int .i64 en], .agg #[.int .i64 lo, .int .i64 hi, .int .i64 st], buV A n c S, .int .i64 ra] wx fun e w' => e = .returned (.bool hb) ∧ Below wx.heap.size wx w')
    (HF : dz = 0 → hb = true → 0 ≤ S → (∀ p ∈ l, 0 ≤ p.n) → ∀ A c wx, PtRow wx A n (l.map hlfP) → Calls Try.prog 55 #[.agg #[.int .i64 s, .int .i64 ww, .int .i64 t, .int .i64 en], .agg #[.int .i64 lo, .int .i64 hi, .int .i64 st], .agg #[.slice A n c, .int .i64 (S.tdiv 2)], .int .i64 ra] wx fun e w' => e = .returned (.int .i64 0) ∧ Below wx.heap.size wx w')
    (H : (dz ≠ 0 ∧ aa = dz) ∨ (dz = 0 ∧ hb = false ∧ aa = 20) ∨ (dz = 0 ∧ hb = true ∧ aa = 0))
    (B : dz = 0 → -20000 ≤ S ∧ S ≤ 20000 ∧ ∀ p ∈ l, -2000 ≤ p.n ∧ p.n ≤ 2000)
    (h : PtRow w A n l) :
    Calls Try.prog 10 #[.agg #[.int .i64 s, .int .i64 ww, .int .i64 t, .int .i64 en], .agg #[.int .i64 lo, .int .i64 hi, .int .i64 st, .slice A n c, .int .i64 S, .int .i64 ra]] w fun e w' => e = .returned (.bool true) ∧ Below w.heap.size w w' := by
  have hle : l.length ≤ n := by have := h.1; omega
  have hge : n ≤ l.length := by have := h.1; omega
  have HR := Lib.hid h
  have HHO := Lib.hid HO
  have HCK := Lib.hid CK
  have HRH := Lib.hid RH
  have HHF := Lib.hid HF
  have HH := Lib.hid H
  have HBd := Lib.hid B
  have AW := fun wx => Lib.hid (awake_any wx)
  have FE := Lib.hid (fun wx => few_any (A := A) (n := n) (c := c) (S := S) wx)
  have hd : decide (n ≤ 12) = true := decide_eq_true hn
  rw [hd] at FE
  clear h HO CK RH HF H B hd
  unfold buV at *
  go_enter Try.func10, Try.ntmps10
  go_upto_region 1 with fail
  obtain ⟨w0, hw0⟩ : ∃ w0, ((w.alloc (.cells #[.int .i64 s, .int .i64 ww, .int .i64 t, .int .i64 en] 23)).alloc (.cells #[.int .i64 lo, .int .i64 hi, .int .i64 st, .slice A n c, .int .i64 S, .int .i64 ra] 81)) = w0 := ⟨_, rfl⟩
  have HB0 : Hid (Below w.heap.size w w0) := Lib.hid (by rw [← hw0]; exact (((Below.refl _ _).alloc (Nat.le_refl _) _).alloc (by simp; try omega) _))
  have HC := Lib.hid (fun wx (hb : Below w0.heap.size w0 wx) => (show wx.cell? ⟨w.heap.size, 0, none⟩ = some (.int .i64 s) ∧ wx.cell? ⟨w.heap.size, 1, none⟩ = some (.int .i64 ww) ∧ wx.cell? ⟨w.heap.size, 2, none⟩ = some (.int .i64 t) ∧ wx.cell? ⟨w.heap.size, 3, none⟩ = some (.int .i64 en) ∧ wx.cell? ⟨w.heap.size + 1, 0, none⟩ = some (.int .i64 lo) ∧ wx.cell? ⟨w.heap.size + 1, 1, none⟩ = some (.int .i64 hi) ∧ wx.cell? ⟨w.heap.size + 1, 2, none⟩ = some (.int .i64 st) ∧ wx.cell? ⟨w.heap.size + 1, 3, none⟩ = some (.slice A n c) ∧ wx.cell? ⟨w.heap.size + 1, 4, none⟩ = some (.int .i64 S) ∧ wx.cell? ⟨w.heap.size + 1, 5, none⟩ = some (.int .i64 ra) from by
    subst hw0
    obtain ⟨k, kf⟩ := bcell hb
    exact ⟨(k _ _ (by simp; try omega)).trans (by simp [go_sem]), (k _ _ (by simp; try omega)).trans (by simp [go_sem]), (k _ _ (by simp; try omega)).trans (by simp [go_sem]), (k _ _ (by simp; try omega)).trans (by simp [go_sem]), (k _ _ (by simp; try omega)).trans (by simp [go_sem]), (k _ _ (by simp; try omega)).trans (by simp [go_sem]), (k _ _ (by simp; try omega)).trans (by simp [go_sem]), (k _ _ (by simp; try omega)).trans (by simp [go_sem]), (k _ _ (by simp; try omega)).trans (by simp [go_sem]), (k _ _ (by simp; try omega)).trans (by simp [go_sem])⟩))
  rw [hw0]
  clear hw0
  go_upto_region 3 with (go_at_call 19; (refine Calls.mono (AW _).out ?_); rintro e w1 ⟨rfl, hb1⟩; have H1 := Lib.hid hb1; clear hb1)
  obtain ⟨d0, d1, d2, d3, d4, d5, d6, d7, d8, d9⟩ := HC.out w1 H1.out
  go_upto_region 5 with (go_at_call 20; (refine Calls.mono (FE.out _) ?_); rintro e w2 ⟨rfl, hb2⟩; have H2 := Lib.hid (H1.out.trans (hb2.mono H1.out.size)); clear hb2)
  have HC2 := Lib.hid (fun wy (hy : Below w2.heap.size w2 wy) => HC.out wy (H2.out.trans (hy.mono H2.out.size)))
  have HW2 := Lib.hid (HB0.out.trans (H2.out.mono HB0.out.size))
  clear d0 d1 d2 d3 d4 d5 d6 d7 d8 d9
  refine wp_region_rk [16, 17, 18, 19, 20, 21, 22, 23, 24, 5] [rEq (.agg #[.int .i64 s, .int .i64 ww, .int .i64 t, .int .i64 en]), rEq (.pointer (some ⟨w.heap.size + 1, 0, none⟩)), rEq (.agg #[.int .i64 lo, .int .i64 hi, .int .i64 st]), rEq (.pointer (some ⟨w.heap.size + 1, 3, none⟩)), rEq (.agg #[.slice A n c, .int .i64 S]), (rBur 0 l n S), rEq (.pointer (some ⟨w.heap.size + 1, 5, none⟩)), rEq (.int .i64 ra), rEq (.int .i64 aa), rEq (.int .i64 aa)] (by kernel_rfl) (by kernel_rfl) (by decide) rfl ⟨?_, ?_, ?_, ?_, ?_, ?_, ?_, ?_, ?_, ?_, trivial⟩ ?_
  · intro ac wx hf hb hd -- 0
    have f2 : ac.tmps[2]?.getD undef = .pointer (some ⟨w.heap.size, 0, none⟩) := by rw [← Array.getD_eq_getD_getElem?]; exact hf.same 2 (by decide)
    obtain ⟨c0, c1, c2, c3, c4, c5, c6, c7, c8, c9⟩ := HC2.out wx hb
    exact rstep_eq (by simp [execOp, Act.eval, f2, c0, c1, c2, c3, go_sem]) rfl
  · intro ac wx hf hb hd -- 1
    have f3 : ac.tmps[3]?.getD undef = .pointer (some ⟨w.heap.size + 1, 0, none⟩) := by rw [← Array.getD_eq_getD_getElem?]; exact hf.same 3 (by decide)
    exact rstep_eq (by simp [execOp, Act.eval, f3, go_sem]) rfl
  · intro ac wx hf hb hd -- 2
    have d1 : ac.tmps[17]?.getD undef = .pointer (some ⟨w.heap.size + 1, 0, none⟩) := by rw [← Array.getD_eq_getD_getElem?]; exact hd 1 (by decide)
    obtain ⟨c0, c1, c2, c3, c4, c5, c6, c7, c8, c9⟩ := HC2.out wx hb
    exact rstep_eq (by simp [execOp, Act.eval, d1, c4, c5, c6, go_sem]) rfl
  · intro ac wx hf hb hd -- 3
    have f3 : ac.tmps[3]?.getD undef = .pointer (some ⟨w.heap.size + 1, 0, none⟩) := by rw [← Array.getD_eq_getD_getElem?]; exact hf.same 3 (by decide)
    exact rstep_eq (by simp [execOp, Act.eval, f3, go_sem]) rfl
  · intro ac wx hf hb hd -- 4
    have d3 : ac.tmps[19]?.getD undef = .pointer (some ⟨w.heap.size + 1, 3, none⟩) := by rw [← Array.getD_eq_getD_getElem?]; exact hd 3 (by decide)
    obtain ⟨c0, c1, c2, c3, c4, c5, c6, c7, c8, c9⟩ := HC2.out wx hb
    exact rstep_eq (by simp [execOp, Act.eval, d3, c7, c8, go_sem]) rfl
  · intro ac wx hf hb hd -- 5
    have d4 : ac.tmps[20]?.getD undef = .agg #[.slice A n c, .int .i64 S] := by rw [← Array.getD_eq_getD_getElem?]; exact hd 4 (by decide)
    exact rstep_copied (A := A) (c := c) (by omega) (HR.out.below (HW2.out.trans (hb.mono HW2.out.size))) (by simp [Act.eval, d4, buV, go_sem]) rfl
  · intro ac wx hf hb hd -- 6
    have f3 : ac.tmps[3]?.getD undef = .pointer (some ⟨w.heap.size + 1, 0, none⟩) := by rw [← Array.getD_eq_getD_getElem?]; exact hf.same 3 (by decide)
    exact rstep_eq (by simp [execOp, Act.eval, f3, go_sem]) rfl
  · intro ac wx hf hb hd -- 7
    have d6 : ac.tmps[22]?.getD undef = .pointer (some ⟨w.heap.size + 1, 5, none⟩) := by rw [← Array.getD_eq_getD_getElem?]; exact hd 6 (by decide)
    obtain ⟨c0, c1, c2, c3, c4, c5, c6, c7, c8, c9⟩ := HC2.out wx hb
    exact rstep_eq (by simp [execOp, Act.eval, d6, c9, go_sem]) rfl
  · intro ac wx hf hb hd -- 8
    have d0 : ac.tmps[16]?.getD undef = .agg #[.int .i64 s, .int .i64 ww, .int .i64 t, .int .i64 en] := by rw [← Array.getD_eq_getD_getElem?]; exact hd 0 (by decide)
    have d2 : ac.tmps[18]?.getD undef = .agg #[.int .i64 lo, .int .i64 hi, .int .i64 st] := by rw [← Array.getD_eq_getD_getElem?]; exact hd 2 (by decide)
    obtain ⟨A5, cc5, d5, r5, -⟩ : ∃ A c, ac.tmps[21]?.getD undef = buV A n c S ∧ PtRow wx A n l ∧ _ := by rw [← Array.getD_eq_getD_getElem?]; exact hd 5 (by decide)
    have d7 : ac.tmps[23]?.getD undef = .int .i64 ra := by rw [← Array.getD_eq_getD_getElem?]; exact hd 7 (by decide)
    refine rstep_call (f := 55) (args := #[.agg #[.int .i64 s, .int .i64 ww, .int .i64 t, .int .i64 en], .agg #[.int .i64 lo, .int .i64 hi, .int .i64 st], buV A5 n cc5 S, .int .i64 ra]) (by simp [Act.eval, d0, d2, d5, d7, go_sem]) ?_ rfl
    exact HHO.out _ _ _ r5
  · intro ac wx hf hb hd -- 9
    have d8 : ac.tmps[24]?.getD undef = .int .i64 aa := by rw [← Array.getD_eq_getD_getElem?]; exact hd 8 (by decide)
    exact rstep_eq (by simp [execOp, Act.eval, d8, go_sem]) rfl
  rintro ⟨⟨ll⟩, df⟩ w4 hf hb4 hall
  have hdf : df = [] := hf.defers
  subst hdf
  have hsz : ll.length = 93 := hf.size
  obtain ⟨x0, ll0, rfl, hsz0⟩ := cons_of hsz
  obtain ⟨x1, ll1, rfl, hsz1⟩ := cons_of hsz0
  obtain ⟨x2, ll2, rfl, hsz2⟩ := cons_of hsz1
  obtain ⟨x3, ll3, rfl, hsz3⟩ := cons_of hsz2
  obtain ⟨x4, ll4, rfl, hsz4⟩ := cons_of hsz3
  obtain ⟨x5, ll5, rfl, hsz5⟩ := cons_of hsz4
  obtain ⟨x6, ll6, rfl, hsz6⟩ := cons_of hsz5
  obtain ⟨x7, ll7, rfl, hsz7⟩ := cons_of hsz6
  obtain ⟨x8, ll8, rfl, hsz8⟩ := cons_of hsz7
  obtain ⟨x9, ll9, rfl, hsz9⟩ := cons_of hsz8
  obtain ⟨x10, ll10, rfl, hsz10⟩ := cons_of hsz9
  obtain ⟨x11, ll11, rfl, hsz11⟩ := cons_of hsz10
  obtain ⟨x12, ll12, rfl, hsz12⟩ := cons_of hsz11
  obtain ⟨x13, ll13, rfl, hsz13⟩ := cons_of hsz12
  obtain ⟨x14, ll14, rfl, hsz14⟩ := cons_of hsz13
  obtain ⟨x15, ll15, rfl, hsz15⟩ := cons_of hsz14
  obtain ⟨x16, ll16, rfl, hsz16⟩ := cons_of hsz15
  obtain ⟨x17, ll17, rfl, hsz17⟩ := cons_of hsz16
  obtain ⟨x18, ll18, rfl, hsz18⟩ := cons_of hsz17
  obtain ⟨x19, ll19, rfl, hsz19⟩ := cons_of hsz18
  obtain ⟨x20, ll20, rfl, hsz20⟩ := cons_of hsz19
  obtain ⟨x21, ll21, rfl, hsz21⟩ := cons_of hsz20
  obtain ⟨x22, ll22, rfl, hsz22⟩ := cons_of hsz21
  obtain ⟨x23, ll23, rfl, hsz23⟩ := cons_of hsz22
  obtain ⟨x24, ll24, rfl, hsz24⟩ := cons_of hsz23
  obtain ⟨x25, ll25, rfl, hsz25⟩ := cons_of hsz24
  obtain ⟨x26, ll26, rfl, hsz26⟩ := cons_of hsz25
  obtain ⟨x27, ll27, rfl, hsz27⟩ := cons_of hsz26
  obtain ⟨x28, ll28, rfl, hsz28⟩ := cons_of hsz27
  obtain ⟨x29, ll29, rfl, hsz29⟩ := cons_of hsz28
  obtain ⟨x30, ll30, rfl, hsz30⟩ := cons_of hsz29
  obtain ⟨x31, ll31, rfl, hsz31⟩ := cons_of hsz30
  obtain ⟨x32, ll32, rfl, hsz32⟩ := cons_of hsz31
  obtain ⟨x33, ll33, rfl, hsz33⟩ := cons_of hsz32
  obtain ⟨x34, ll34, rfl, hsz34⟩ := cons_of hsz33
  obtain ⟨x35, ll35, rfl, hsz35⟩ := cons_of hsz34
  obtain ⟨x36, ll36, rfl, hsz36⟩ := cons_of hsz35
  obtain ⟨x37, ll37, rfl, hsz37⟩ := cons_of hsz36
  obtain ⟨x38, ll38, rfl, hsz38⟩ := cons_of hsz37
  obtain ⟨x39, ll39, rfl, hsz39⟩ := cons_of hsz38
  obtain ⟨x40, ll40, rfl, hsz40⟩ := cons_of hsz39
  obtain ⟨x41, ll41, rfl, hsz41⟩ := cons_of hsz40
  obtain ⟨x42, ll42, rfl, hsz42⟩ := cons_of hsz41
  obtain ⟨x43, ll43, rfl, hsz43⟩ := cons_of hsz42
  obtain ⟨x44, ll44, rfl, hsz44⟩ := cons_of hsz43
  obtain ⟨x45, ll45, rfl, hsz45⟩ := cons_of hsz44
  obtain ⟨x46, ll46, rfl, hsz46⟩ := cons_of hsz45
  obtain ⟨x47, ll47, rfl, hsz47⟩ := cons_of hsz46
  obtain ⟨x48, ll48, rfl, hsz48⟩ := cons_of hsz47
  obtain ⟨x49, ll49, rfl, hsz49⟩ := cons_of hsz48
  obtain ⟨x50, ll50, rfl, hsz50⟩ := cons_of hsz49
  obtain ⟨x51, ll51, rfl, hsz51⟩ := cons_of hsz50
  obtain ⟨x52, ll52, rfl, hsz52⟩ := cons_of hsz51
  obtain ⟨x53, ll53, rfl, hsz53⟩ := cons_of hsz52
  obtain ⟨x54, ll54, rfl, hsz54⟩ := cons_of hsz53
  obtain ⟨x55, ll55, rfl, hsz55⟩ := cons_of hsz54
  obtain ⟨x56, ll56, rfl, hsz56⟩ := cons_of hsz55
  obtain ⟨x57, ll57, rfl, hsz57⟩ := cons_of hsz56
  obtain ⟨x58, ll58, rfl, hsz58⟩ := cons_of hsz57
  obtain ⟨x59, ll59, rfl, hsz59⟩ := cons_of hsz58
  obtain ⟨x60, ll60, rfl, hsz60⟩ := cons_of hsz59
  obtain ⟨x61, ll61, rfl, hsz61⟩ := cons_of hsz60
  obtain ⟨x62, ll62, rfl, hsz62⟩ := cons_of hsz61
  obtain ⟨x63, ll63, rfl, hsz63⟩ := cons_of hsz62
  obtain ⟨x64, ll64, rfl, hsz64⟩ := cons_of hsz63
  obtain ⟨x65, ll65, rfl, hsz65⟩ := cons_of hsz64
  obtain ⟨x66, ll66, rfl, hsz66⟩ := cons_of hsz65
  obtain ⟨x67, ll67, rfl, hsz67⟩ := cons_of hsz66
  obtain ⟨x68, ll68, rfl, hsz68⟩ := cons_of hsz67
  obtain ⟨x69, ll69, rfl, hsz69⟩ := cons_of hsz68
  obtain ⟨x70, ll70, rfl, hsz70⟩ := cons_of hsz69
  obtain ⟨x71, ll71, rfl, hsz71⟩ := cons_of hsz70
  obtain ⟨x72, ll72, rfl, hsz72⟩ := cons_of hsz71
  obtain ⟨x73, ll73, rfl, hsz73⟩ := cons_of hsz72
  obtain ⟨x74, ll74, rfl, hsz74⟩ := cons_of hsz73
  obtain ⟨x75, ll75, rfl, hsz75⟩ := cons_of hsz74
  obtain ⟨x76, ll76, rfl, hsz76⟩ := cons_of hsz75
  obtain ⟨x77, ll77, rfl, hsz77⟩ := cons_of hsz76
  obtain ⟨x78, ll78, rfl, hsz78⟩ := cons_of hsz77
  obtain ⟨x79, ll79, rfl, hsz79⟩ := cons_of hsz78
  obtain ⟨x80, ll80, rfl, hsz80⟩ := cons_of hsz79
  obtain ⟨x81, ll81, rfl, hsz81⟩ := cons_of hsz80
  obtain ⟨x82, ll82, rfl, hsz82⟩ := cons_of hsz81
  obtain ⟨x83, ll83, rfl, hsz83⟩ := cons_of hsz82
  obtain ⟨x84, ll84, rfl, hsz84⟩ := cons_of hsz83
  obtain ⟨x85, ll85, rfl, hsz85⟩ := cons_of hsz84
  obtain ⟨x86, ll86, rfl, hsz86⟩ := cons_of hsz85
  obtain ⟨x87, ll87, rfl, hsz87⟩ := cons_of hsz86
  obtain ⟨x88, ll88, rfl, hsz88⟩ := cons_of hsz87
  obtain ⟨x89, ll89, rfl, hsz89⟩ := cons_of hsz88
  obtain ⟨x90, ll90, rfl, hsz90⟩ := cons_of hsz89
  obtain ⟨x91, ll91, rfl, hsz91⟩ := cons_of hsz90
  obtain ⟨x92, ll92, rfl, hsz92⟩ := cons_of hsz91
  obtain rfl := List.eq_nil_of_length_eq_zero hsz92
  obtain rfl : x2 = .pointer (some ⟨w.heap.size, 0, none⟩) := hf.same 2 (by decide)
  obtain rfl : x3 = .pointer (some ⟨w.heap.size + 1, 0, none⟩) := hf.same 3 (by decide)
  obtain rfl : x5 = .int .i64 aa := hall 9 5 rfl
  obtain rfl : x16 = .agg #[.int .i64 s, .int .i64 ww, .int .i64 t, .int .i64 en] := hall 0 16 rfl
  obtain rfl : x17 = .pointer (some ⟨w.heap.size + 1, 0, none⟩) := hall 1 17 rfl
  obtain rfl : x18 = .agg #[.int .i64 lo, .int .i64 hi, .int .i64 st] := hall 2 18 rfl
  obtain rfl : x19 = .pointer (some ⟨w.heap.size + 1, 3, none⟩) := hall 3 19 rfl
  obtain rfl : x20 = .agg #[.slice A n c, .int .i64 S] := hall 4 20 rfl
  obtain rfl : x22 = .pointer (some ⟨w.heap.size + 1, 5, none⟩) := hall 6 22 rfl
  obtain rfl : x23 = .int .i64 ra := hall 7 23 rfl
  obtain rfl : x24 = .int .i64 aa := hall 8 24 rfl
  clear hall hf
  have H4 := Lib.hid (H2.out.trans (hb4.mono H2.out.size))
  have HW4 := Lib.hid (HB0.out.trans (H4.out.mono HB0.out.size))
  clear hb4 HC2 hsz0 hsz1 hsz2 hsz3 hsz4 hsz5 hsz6 hsz7 hsz8 hsz9 hsz10 hsz11 hsz12 hsz13 hsz14 hsz15 hsz16 hsz17 hsz18 hsz19 hsz20 hsz21 hsz22 hsz23 hsz24 hsz25 hsz26 hsz27 hsz28 hsz29 hsz30 hsz31 hsz32 hsz33 hsz34 hsz35 hsz36 hsz37 hsz38 hsz39 hsz40 hsz41 hsz42 hsz43 hsz44 hsz45 hsz46 hsz47 hsz48 hsz49 hsz50 hsz51 hsz52 hsz53 hsz54 hsz55 hsz56 hsz57 hsz58 hsz59 hsz60 hsz61 hsz62 hsz63 hsz64 hsz65 hsz66 hsz67 hsz68 hsz69 hsz70 hsz71 hsz72 hsz73 hsz74 hsz75 hsz76 hsz77 hsz78 hsz79 hsz80 hsz81 hsz82 hsz83 hsz84 hsz85 hsz86 hsz87 hsz88 hsz89 hsz90 hsz91 hsz92 hsz
  obtain ⟨c0, c1, c2, c3, c4, c5, c6, c7, c8, c9⟩ := HC.out w4 H4.out
  go_upto_region 7 with (go_at_call 56; (with_reducible refine Calls.mono (HCK.out _ HW4.out) ?_); rintro e w5 ⟨rfl, hb5⟩; have H5 := Lib.hid (H4.out.trans (hb5.mono H4.out.size)); clear hb5)
  have HW5 := Lib.hid (HB0.out.trans (H5.out.mono HB0.out.size))
  clear c0 c1 c2 c3 c4 c5 c6 c7 c8 c9
  obtain ⟨c0, c1, c2, c3, c4, c5, c6, c7, c8, c9⟩ := HC.out w5 H5.out
  rcases HH.out with ⟨hdz, rfl⟩ | ⟨rfl, rfl, rfl⟩ | ⟨rfl, rfl, rfl⟩
  · have e1' : (aa == 0) = false := by simpa using hdz
    have e2' : (aa != 0) = true := by simpa using hdz
    go_wp2
    go_ret
    exact ⟨ret_bool (by simp), HW5.out⟩
  · have RH1 := HRH.out rfl
    have RH2 := Lib.hid RH1
    clear HRH RH1
    go_wp2_with (first | (go_at_call 57; (with_reducible refine Calls.mono (RH2.out _ HW5.out) ?_); rintro e w6 ⟨rfl, hb6⟩; have H6 := Lib.hid (H5.out.trans (hb6.mono H5.out.size)); clear hb6) | fail)
    go_ret
    exact ⟨ret_bool (by simp), HB0.out.trans (H6.out.mono HB0.out.size)⟩
  · have RH1 := HRH.out rfl
    have RH2 := Lib.hid RH1
    have HF1 := HHF.out rfl rfl
    have HF2 := Lib.hid HF1
    obtain ⟨S0, S1, PB⟩ := HBd.out rfl
    have HN := Lib.hid PB
    clear HRH HHF RH1 HF1 PB HBd HHO HCK HH AW FE
    go_upto_region 13 with (first | (go_at_call 57; (with_reducible refine Calls.mono (RH2.out _ HW5.out) ?_); rintro e w6 ⟨rfl, hb6⟩; have H6 := Lib.hid (H5.out.trans (hb6.mono H5.out.size)); clear hb6) | fail)
    clear c0 c1 c2 c3 c4 c5 c6 c7 c8 c9
    obtain ⟨c0, c1, c2, c3, c4, c5, c6, c7, c8, c9⟩ := HC.out w6 H6.out
    have hw1 : wrap64 (S.tdiv 2) = S.tdiv 2 := by have := tdiv2_bd S0 S1; exact w64 (by omega)
    go_upto_region 14 with fail
    clear hw1
    generalize S.tdiv 2 = hS at *
    obtain ⟨w7, hw7⟩ : ∃ w7, w6.alloc (.cells #[.slice none 0 0, .int .i64 hS] 26) = w7 := ⟨_, rfl⟩
    have H7 : Hid (Below w0.heap.size w0 w7) := Lib.hid (by rw [← hw7]; exact H6.out.alloc H6.out.size _)
    obtain ⟨pH, hpH⟩ : ∃ x, w6.heap.size = x := ⟨_, rfl⟩
    have hpw : w0.heap.size ≤ pH := by rw [← hpH]; exact H6.out.size
    have HH4 : Hid (HlfI w0 pH n l hS (.int .i64 0) w7) := Lib.hid ⟨0, .slice none 0 0, Nat.zero_le _, rfl, H7.out, by rw [← hw7, ← hpH]; simp [go_sem], by rw [← hw7, ← hpH]; simp [go_sem], by rw [← hw7, ← hpH]; simp [go_sem], by rw [← hw7, ← hpH]; simp, by simpa [flatP] using World.ownsRow_nil w7 (pH + 1) 90 2, fun p hp => by simp at hp⟩
    rw [hw7, hpH]
    clear hw7 hpH RH2 c0 c1 c2 c3 c4 c5 c6 c7 c8 c9
    go_wp2
    go_loopw [8] (fun i wr => HlfI w0 pH n l hS i wr) (fun i _ => n - (intOf i).toNat)
    case atStart => exact HH4.out
    case round =>
      obtain ⟨k, vv, hk, rfl, hbw, q0, q1, q2, q3, hO, hnn⟩ := hrel
      have HB := Lib.hid hbw
      have HBW := Lib.hid (HB0.out.trans (hbw.mono HB0.out.size))
      obtain ⟨d0, d1, d2, d3, d4, d5, d6, d7, d8, d9⟩ := HC.out wr hbw
      have HO := Lib.hid hO
      have HNN := Lib.hid hnn
      have HQ := Lib.hid (And.intro q0 (And.intro q1 (And.intro q2 q3)))
      clear hbw hO HH4 q0 q1 q2 q3 hnn
      have hk64 : IntKind.i64.wrap (k : Int) = k := i64w (w64 (by omega))
      have hk0 : (0 : Int) ≤ (k : Int) := by omega
      have hnm : n ≤ 9223372036854775807 := by omega
      by_cases hlt : k < n
      · have hkl : k < l.length := by omega
        obtain ⟨blk, off, rfl, hblk, hx⟩ := HR.out.2 (by omega)
        have PP := (hx k hkl).below HBW.out hblk
        have hnv := HN.out _ (List.getElem_mem hkl)
        obtain ⟨pt, hpe⟩ : ∃ x, l[k] = x := ⟨_, rfl⟩
        have hpe' := hpe
        rw [hpe] at PP hnv
        obtain ⟨a, v⟩ := pt
        unfold PtAt at PP
        simp only at PP hnv
        obtain ⟨p0, p1⟩ := PP
        obtain ⟨g0, g1⟩ := tdiv2_bd (v := v) (by omega) (by omega)
        obtain ⟨hv, hhv⟩ : ∃ x, v.tdiv 2 = x := ⟨_, rfl⟩
        have hvw : wrap64 (v.tdiv 2) = v.tdiv 2 := w64 (by omega)
        have HST := Lib.hid (fun h : 0 ≤ v => take_stepH (x := v / 2) hkl hpe (Int.tdiv_eq_ediv_of_nonneg h))
        have HNS : Hid (0 ≤ v → ∀ p ∈ l.take (k + 1), 0 ≤ p.n) := Lib.hid (fun h => nonneg_step hkl HNN.out (by rw [hpe]; exact h))
        have hblk2 : blk < wr.heap.size := Nat.lt_of_lt_of_le hblk HBW.out.size
        clear hhv hpe hpe' hx HN HF2 g0 g1
        have hki : (k : Int) < (n : Int) := by omega
        by_cases hneg : v < 0
        · have hnd : decide (v < 0) = true := decide_eq_true hneg
          go_upto_region 18 with fail
          obtain ⟨w8, hw8⟩ : ∃ w8, wr.alloc (.cells #[.int .i64 a, .int .i64 v] 90) = w8 := ⟨_, rfl⟩
          have HB8 : Hid (Below wr.heap.size wr w8) := Lib.hid (by rw [← hw8]; exact (Below.refl _ _).alloc (Nat.le_refl _) _)
          have r0 : w8.cell? ⟨wr.heap.size, 0, none⟩ = some (.int .i64 a) := by rw [← hw8]; simp [go_sem]
          have r1 : w8.cell? ⟨wr.heap.size, 1, none⟩ = some (.int .i64 v) := by rw [← hw8]; simp [go_sem]
          rw [hw8]
          clear hw8
          go_wp2
          go_ret
          exact ⟨rfl, HBW.out.trans (HB8.out.mono HBW.out.size)⟩
        · have hnd : decide (v < 0) = false := decide_eq_false hneg
          have HNS2 := Lib.hid (HNS.out (by omega))
          have HST2 := Lib.hid (HST.out (by omega))
          clear hvw
          go_upto_region 18 with fail
          obtain ⟨w8, hw8⟩ : ∃ w8, wr.alloc (.cells #[.int .i64 a, .int .i64 v] 90) = w8 := ⟨_, rfl⟩
          have HB8 : Hid (Below wr.heap.size wr w8) := Lib.hid (by rw [← hw8]; exact (Below.refl _ _).alloc (Nat.le_refl _) _)
          have r0 : w8.cell? ⟨wr.heap.size, 0, none⟩ = some (.int .i64 a) := by rw [← hw8]; simp [go_sem]
          have r1 : w8.cell? ⟨wr.heap.size, 1, none⟩ = some (.int .i64 v) := by rw [← hw8]; simp [go_sem]
          have r2 := ((bcell HB8.out).1 _ _ HQ.out.2.2.2).trans HQ.out.1
          rw [hw8]
          clear hw8 HNN HNS d0 d1 d2 d3 d4 d5 d6 d7 d8 d9 p0 p1
          go_upto_region 20 with fail
          have HO8 := Lib.hid (HO.out.kept (below_grown5 HB8.out) (own_ne _))
          have HP8 := Lib.hid (ptrow_newq w8 ⟨a, v / 2⟩ 90)
          have HB9 : Hid (Below wr.heap.size wr (w8.alloc (.cells #[.int .i64 a, .int .i64 (v / 2)] 90))) := Lib.hid (HB8.out.alloc HB8.out.size _)
          have HO9 := Lib.hid (HO.out.kept (below_grown5 HB9.out) (own_ne _))
          have q4 := Lib.hid (Nat.le_trans HQ.out.2.2.2 HB9.out.size)
          go_wp2_with (at_builtin; refine wpList_append_pts (c := 1) rfl (.tmp 69) (.tmp 76) rfl rfl rfl HO9.out HP8.out (by omega) q4.out ?_; intro v' w' hown hgr hob; rw [← HST2.out] at hown; obtain ⟨A2, c2, hv2, hX2⟩ := own_pts hown; subst hv2; have HBL := Lib.hid (below_ownP (Below.refl (pH + 1) _) q4.out HO9.out hgr); have HSZ := Lib.hid (Nat.le_trans q4.out hgr.size); have HOW := Lib.hid hown; have s1 := (HBL.out.cell (p := ⟨pH, 0, none⟩) (Nat.lt_succ_self _)).trans (((bcell HB9.out).1 _ _ HQ.out.2.2.2).trans HQ.out.1); have s2 := (HBL.out.frozen (p := ⟨pH, 0, none⟩) (Nat.lt_succ_self _)).trans (((bcell HB9.out).2 _ _ HQ.out.2.2.2).trans HQ.out.2.2.1); have s3 := Lib.hid ((HBL.out.cell (p := ⟨pH, 1, none⟩) (Nat.lt_succ_self _)).trans (((bcell HB9.out).1 _ _ HQ.out.2.2.2).trans HQ.out.2.1)); have HB1 := Lib.hid (((HB.out.trans (HB9.out.mono HB.out.size)).trans (HBL.out.mono (by omega))).setCell (p := ⟨pH, 0, none⟩) hpw (.slice A2 (k + 1) c2)); have S1 := Lib.hid s1; have S2 := Lib.hid s2; clear hown hgr hob hX2)
          go_roundw
          case rel => exact ⟨k + 1, _, by omega, by go_num, HB1.out, World.cell?_setCell_same _ _ _ S1.out, (World.cell?_setCell_other _ _ _ _ (fun h => by injection h with h1 h2 _; exact absurd h2 (by decide))).trans s3.out, by rw [World.frozen?_setCell]; exact S2.out, by simpa using HSZ.out, set_belowP HOW.out (Nat.lt_succ_self _) _, HNS2.out⟩
          case measure => simp [intOf]; omega
      · obtain rfl : k = n := by omega
        have hOO := HO.out
        have hNN := HNN.out
        rw [List.take_of_length_le hle] at hOO hNN
        obtain ⟨A', c', hvv, hX⟩ := own_pts hOO
        subst hvv
        obtain ⟨r0, r1, -, -⟩ := HQ.out
        by_cases hneg : S < 0
        · have hnd : decide (S < 0) = true := decide_eq_true hneg
          go_wp2
          go_ret
          exact ⟨rfl, HBW.out⟩
        · have hnd : decide (S < 0) = false := decide_eq_false hneg
          have HFX := Lib.hid (HF2.out (by omega) hNN _ c' wr hX)
          clear hOO hNN HF2 HN hX
          go_wp2_with (go_at_call 55; (with_reducible refine Calls.mono HFX.out ?_); rintro e w8 ⟨rfl, hb8⟩; have H8 := Lib.hid hb8; clear hb8)
          go_ret
          exact ⟨rfl, HBW.out.trans (H8.out.mono HBW.out.size)⟩
end Go.Proofs.Ytablphoicidlkaa
