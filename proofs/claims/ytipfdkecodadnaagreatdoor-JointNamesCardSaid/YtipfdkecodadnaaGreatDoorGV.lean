/- What the package variables hold: the blocks themselves, out of the premise that they read as the program lays them and of the world's shape. -/
import Derived.Test.YtipfdkecodadnaaGreatDoorRows
import Derived.Test.YtipfdkecodadnaaGreatDoorG0
import Derived.Test.YtipfdkecodadnaaGreatDoorAwake
import Derived.ProofKit
import Derived.LaidMore
import Derived.OpenShut
import Derived.MakeChecks
import Derived.Handed
import Derived.Lib.SmallJoins
import Derived.Below
namespace Go.Proofs.YtipfdkecodadnaaGreatDoor
open Go Go.ChangeShapes Go.WideShapes Go.ChangeAt Go.RowKit Go.Joins Go.Ax

def gv0 : Array Value := #[.string ⟨#[108, 97, 112]⟩, .int .i64 2, .int .i64 1, .int .i64 0, .string ⟨#[98, 114, 105, 100, 108, 101]⟩, .int .i64 2, .int .i64 2, .int .i64 0, .string ⟨#[116, 101, 110, 111, 110]⟩, .int .i64 2, .int .i64 4, .int .i64 0, .string ⟨#[115, 116, 111, 112, 112, 101, 100]⟩, .int .i64 2, .int .i64 6, .int .i64 0, .string ⟨#[116, 111, 110, 103, 117, 101]⟩, .int .i64 2, .int .i64 4, .int .i64 0, .string ⟨#[100, 111, 118, 101, 116, 97, 105, 108]⟩, .int .i64 2, .int .i64 3, .int .i64 1, .string ⟨#[115, 99, 97, 114, 102]⟩, .int .i64 2, .int .i64 3, .int .i64 0, .string ⟨#[102, 105, 110, 103, 101, 114, 115]⟩, .int .i64 2, .int .i64 1, .int .i64 1, .string ⟨#[100, 111, 119, 101, 108, 115]⟩, .int .i64 2, .int .i64 8, .int .i64 2, .string ⟨#[115, 112, 108, 105, 110, 101]⟩, .int .i64 2, .int .i64 5, .int .i64 0, .string ⟨#[116, 104, 114, 101, 101]⟩, .int .i64 3, .int .i64 5, .int .i64 0]
def gv1 : Array Value := #[.int .u64 1, .int .u64 10, .int .u64 100, .int .u64 1000, .int .u64 10000, .int .u64 100000, .int .u64 1000000, .int .u64 10000000, .int .u64 100000000, .int .u64 1000000000, .int .u64 10000000000, .int .u64 100000000000, .int .u64 1000000000000, .int .u64 10000000000000, .int .u64 100000000000000, .int .u64 1000000000000000, .int .u64 10000000000000000, .int .u64 100000000000000000, .int .u64 1000000000000000000, .int .u64 10000000000000000000]
def gv2 : Array Value := #[.int .u8 0, .int .u8 1, .int .u8 28, .int .u8 2, .int .u8 29, .int .u8 14, .int .u8 24, .int .u8 3, .int .u8 30, .int .u8 22, .int .u8 20, .int .u8 15, .int .u8 25, .int .u8 17, .int .u8 4, .int .u8 8, .int .u8 31, .int .u8 27, .int .u8 13, .int .u8 23, .int .u8 21, .int .u8 19, .int .u8 16, .int .u8 7, .int .u8 26, .int .u8 12, .int .u8 18, .int .u8 6, .int .u8 11, .int .u8 5, .int .u8 10, .int .u8 9]
def gv3 : Array Value := #[.int .u8 0, .int .u8 1, .int .u8 56, .int .u8 2, .int .u8 57, .int .u8 49, .int .u8 28, .int .u8 3, .int .u8 61, .int .u8 58, .int .u8 42, .int .u8 50, .int .u8 38, .int .u8 29, .int .u8 17, .int .u8 4, .int .u8 62, .int .u8 47, .int .u8 59, .int .u8 36, .int .u8 45, .int .u8 43, .int .u8 51, .int .u8 22, .int .u8 53, .int .u8 39, .int .u8 33, .int .u8 30, .int .u8 24, .int .u8 18, .int .u8 12, .int .u8 5, .int .u8 63, .int .u8 55, .int .u8 48, .int .u8 27, .int .u8 60, .int .u8 41, .int .u8 37, .int .u8 16, .int .u8 46, .int .u8 35, .int .u8 44, .int .u8 21, .int .u8 52, .int .u8 32, .int .u8 23, .int .u8 11, .int .u8 54, .int .u8 26, .int .u8 40, .int .u8 15, .int .u8 34, .int .u8 20, .int .u8 31, .int .u8 10, .int .u8 25, .int .u8 14, .int .u8 19, .int .u8 9, .int .u8 13, .int .u8 8, .int .u8 7, .int .u8 6]

/-- The blocks of the package variables. -/
structure GV (w : World) : Prop where
  g0 : w.heap[0]? = some (.cells gv0 93)
  g1 : w.heap[1]? = some (.cells gv1 221)
  g2 : w.heap[2]? = some (.cells gv2 247)
  g3 : w.heap[3]? = some (.cells gv3 248)
theorem GV.below {w w' : World} (h : GV w) (hb : Below w.heap.size w w') : GV w' := by
  have k : ∀ i o, w.heap[i]? = some o → w'.heap[i]? = some o := fun i o hi => by
    rw [hb.block i (Array.getElem?_eq_some_iff.1 hi).1]; exact hi
  exact ⟨k _ _ h.g0, k _ _ h.g1, k _ _ h.g2, k _ _ h.g3⟩
noncomputable section
theorem sc0 : ofScalars gv0.toList = some glob0 := by kernel_rfl
theorem sc1 : ofScalars gv1.toList = some glob1 := by kernel_rfl
theorem sc2 : ofScalars gv2.toList = some glob2 := by kernel_rfl
theorem sc3 : ofScalars gv3.toList = some glob3 := by kernel_rfl
theorem row_of {w : World} {g t : Nat} {gv : Array Value} {gl : List Sc} (hg : g < 8) (hs : ofScalars gv.toList = some gl) (h : w.heap[g]? = some (.cells gv t)) :
    g < 8 ∧ g < w.heap.size ∧ (Row.cells t true gl.length (T.ofList gl)).is Pl.start 8 g w.heap[g]? := by
  have hi := ofScalars_is (p := Pl.start) (n := 8) hs
  have hl := hi.length
  simp only [Array.length_toList] at hl
  refine ⟨hg, (Array.getElem?_eq_some_iff.1 h).1, gv, by rw [h]; exact IsRow.plain, by omega, fun _ => by omega, fun e => (by cases e), fun j s hj => ?_, fun j s hj => ?_⟩
  · have := ofList_get hj
    rw [List.getElem?_eq_some_iff] at this; exact this.1
  · obtain ⟨v, hv, hvs⟩ := hi.get j s (ofList_get hj)
    exact ⟨v, by simpa using hv, hvs⟩
theorem GV.laid {w : World} (h : GV w) : Laid w := by
  intro x hx
  unfold globs at hx
  simp only [List.mem_cons, List.not_mem_nil, or_false] at hx
  rcases hx with rfl | rfl | rfl | rfl
  · exact row_of (by decide) sc0 h.g0
  · exact row_of (by decide) sc1 h.g1
  · exact row_of (by decide) sc2 h.g2
  · exact row_of (by decide) sc3 h.g3

/-! ### Out of the data -/
theorem chunks (c : Nat) : ∀ (n : Nat) (cs : List Value), cs.length = n * c → cs = ((List.range n).map fun i => (cs.drop (i * c)).take c).flatten
  | 0, cs, h => by simp at h; subst h; rfl
  | n + 1, cs, h => by
    rw [List.range_succ_eq_map, List.map_cons, List.map_map, List.flatten_cons]
    have ih := chunks c n (cs.drop c) (by rw [List.length_drop, h, Nat.add_mul]; omega)
    have e : ((fun i => (cs.drop (i * c)).take c) ∘ Nat.succ) = fun i => ((cs.drop c).drop (i * c)).take c := by
      funext i
      simp [List.drop_drop, Nat.succ_mul, Nat.add_comm]
    rw [e, ← ih]
    simp
theorem cells_of_array {H : Type} {enc : TypeId × Value → H} {P : Program} {w : World} {base : Nat} {spare : Nat → Bool} {held : Bool} {fuel : Nat} {t e : TypeId} {n c : Nat} {cs : List Value} {d : DataW H} {p : List MemPlace} (f : DataW H → List Value)
    (ht : P.underlying t = some (.array n e)) (hc : P.cellsOf e = c) (hC : P.cellsOf t = n * c)
    (he : ∀ (m : Nat) (l : List Value) (x : DataW H × List MemPlace), DataW.trod enc P w base spare held m e l = some x → l = f x.1)
    (h : DataW.trod enc P w base spare held fuel t cs = some (d, p)) : ∃ ds, d = .agg ds ∧ cs = (ds.map f).flatten := by
  obtain ⟨xs, m, _, hx, hl, hn, hel⟩ := DataW.trod_array ht h
  simp only [Prod.mk.injEq] at hx
  refine ⟨xs.map (·.1), hx.1, ?_⟩
  rw [hC] at hl
  rw [hc] at hel
  rw [chunks c n cs hl]
  congr 1
  apply List.ext_getElem
  · simp [hn]
  · intro i h1 h2
    simp only [List.length_map, List.length_range] at h1
    have hi : i < xs.length := by omega
    have := hel i h1
    rw [List.getElem?_eq_getElem hi] at this
    have := he m _ _ this
    simp only [List.getElem_map, List.getElem_range]
    exact this
def fInt {H : Type} : DataW H → List Value
  | .lit (.int k z) => [.int k z]
  | _ => []
def fKind {H : Type} : DataW H → List Value
  | .agg [.lit (.string s), .lit (.int k a), .lit (.int l b), .lit (.int m c)] => [.string ⟨s.toArray⟩, .int k a, .int l b, .int m c]
  | _ => []
section
variable {w : World} {base : Nat} {spare : Nat → Bool} {held : Bool} {enc : TypeId × Value → Unit}
theorem int_cells {e : TypeId} {k : IntKind} (hu : Tryz.prog.underlying e = some (.int k)) (m : Nat) (l : List Value) (x : DataW Unit × List MemPlace) (h : DataW.trod enc Tryz.prog w base spare held m e l = some x) : l = fInt x.1 := by
  obtain ⟨z, rfl, rfl, _⟩ := DataW.trod_int hu h
  rfl
theorem four {l : List Value} (h : l.length = 4) : ∃ a b c d, l = [a, b, c, d] := by
  match l, h with
  | [a, b, c, d], _ => exact ⟨a, b, c, d, rfl⟩
set_option maxRecDepth 10000 in
theorem kind_cells (m : Nat) (l : List Value) (x : DataW Unit × List MemPlace) (h : DataW.trod enc Tryz.prog w base spare held m 92 l = some x) : l = fKind x.1 := by
  obtain ⟨y0, y1, y2, y3, n, rfl, hl, h0, h1, h2, h3⟩ := trod_struct4 Tryz.underlying92 h
  have hc : Tryz.prog.cellsOf 92 = 4 := by kernel_rfl
  have c9 : Tryz.prog.cellsOf 9 = 1 := by kernel_rfl
  have c3 : Tryz.prog.cellsOf 3 = 1 := by kernel_rfl
  rw [hc] at hl
  obtain ⟨a, b, c, d, rfl⟩ := four hl
  simp only [c9, c3] at h0 h1 h2 h3
  obtain ⟨s, e0, rfl, _⟩ := DataW.trod_string Tryz.underlying9 h0
  obtain ⟨z1, e1, rfl, _⟩ := DataW.trod_int Tryz.underlying3 h1
  obtain ⟨z2, e2, rfl, _⟩ := DataW.trod_int Tryz.underlying3 h2
  obtain ⟨z3, e3, rfl, _⟩ := DataW.trod_int Tryz.underlying3 h3
  obtain rfl : a = .string s := (List.cons.inj e0).1
  obtain rfl : b = .int .i64 z1 := (List.cons.inj e1).1
  obtain rfl : c = .int .i64 z2 := (List.cons.inj e2).1
  obtain rfl : d = .int .i64 z3 := (List.cons.inj e3).1
  show _ = [Value.string ⟨s.data.toList.toArray⟩, .int .i64 z1, .int .i64 z2, .int .i64 z3]
  rw [Array.toArray_toList]
end
theorem gn0 : Tryz.prog.globalNamed "spokeshave/joint.kinds" = some 0 := by kernel_rfl
theorem gt0 : (Tryz.prog.globals[0]?).map (·.type) = some 93 := by kernel_rfl
theorem gn1 : Tryz.prog.globalNamed "internal/strconv.uint64pow10" = some 1 := by kernel_rfl
theorem gt1 : (Tryz.prog.globals[1]?).map (·.type) = some 221 := by kernel_rfl
theorem gn2 : Tryz.prog.globalNamed "math/bits.deBruijn32tab" = some 2 := by kernel_rfl
theorem gt2 : (Tryz.prog.globals[2]?).map (·.type) = some 247 := by kernel_rfl
theorem gn3 : Tryz.prog.globalNamed "math/bits.deBruijn64tab" = some 3 := by kernel_rfl
theorem gt3 : (Tryz.prog.globals[3]?).map (·.type) = some 248 := by kernel_rfl
theorem dv0 : (match (Rows.laid_spokeshave_joint_kinds : DataW Unit) with | .agg ds => (ds.map fKind).flatten | _ => []) = gv0.toList := by kernel_rfl
theorem dv1 : (match (Rows.laid_internal_strconv_uint64pow10 : DataW Unit) with | .agg ds => (ds.map fInt).flatten | _ => []) = gv1.toList := by kernel_rfl
theorem dv2 : (match (Rows.laid_math_bits_deBruijn32tab : DataW Unit) with | .agg ds => (ds.map fInt).flatten | _ => []) = gv2.toList := by kernel_rfl
theorem dv3 : (match (Rows.laid_math_bits_deBruijn64tab : DataW Unit) with | .agg ds => (ds.map fInt).flatten | _ => []) = gv3.toList := by kernel_rfl
/-- What the world's shape says of a package variable's block. -/
noncomputable def shapeOf (g : Nat) : Option (Nat × Nat) := ((begin Tryz.prog (fun _ _ => 0) default).world.heap[g]?).bind fun o => (Obj.row? o).map fun x => (x.1.size, x.2)
set_option maxRecDepth 100000 in
theorem sh0 : shapeOf 0 = some (44, 93) := by kernel_rfl
set_option maxRecDepth 100000 in
theorem sh1 : shapeOf 1 = some (20, 221) := by kernel_rfl
set_option maxRecDepth 100000 in
theorem sh2 : shapeOf 2 = some (32, 247) := by kernel_rfl
set_option maxRecDepth 100000 in
theorem sh3 : shapeOf 3 = some (64, 248) := by kernel_rfl
theorem globalsN : Tryz.prog.globals.size = 4 := by kernel_rfl
theorem block_of {w : World} (hs : w.ShapedOpen Tryz.prog) {g n t : Nat} (hg : g < 4) (h : shapeOf g = some (n, t)) : ∃ cs, w.heap[g]? = some (.cells cs t) := by
  unfold shapeOf at h
  rw [Option.bind_eq_some_iff] at h
  obtain ⟨o, ho, h⟩ := h
  rw [Option.map_eq_some_iff] at h
  obtain ⟨⟨z, t'⟩, hx, h⟩ := h
  simp only [Prod.mk.injEq] at h
  obtain ⟨cs, h1, _⟩ := hs.1 g z t' (by rw [globalsN]; exact hg) (by rw [ho]; exact hx)
  exact ⟨cs, by rw [← h.2]; exact h1⟩
theorem cells_eq {w : World} {g t : Nat} {name : String} {cs gv : Array Value} (hn : Tryz.prog.globalNamed name = some g) (hv : w.var? Tryz.prog name = some cs) (hb : ∃ c, w.heap[g]? = some (.cells c t)) (h : cs.toList = gv.toList) : w.heap[g]? = some (.cells gv t) := by
  obtain ⟨c, hc⟩ := hb
  unfold World.var? at hv
  rw [hn] at hv
  simp only [Option.bind_some, hc, Option.some.injEq] at hv
  rw [hc, hv]
  congr 2
  exact Array.toList_inj.1 h
abbrev laidL : List (String × DataW Unit) := [("math/bits.deBruijn32tab", Rows.laid_math_bits_deBruijn32tab), ("math/bits.deBruijn64tab", Rows.laid_math_bits_deBruijn64tab), ("internal/strconv.uint64pow10", Rows.laid_internal_strconv_uint64pow10), ("spokeshave/joint.kinds", Rows.laid_spokeshave_joint_kinds)]
theorem gv_of {w : World} (hs : w.ShapedOpen Tryz.prog) (h : laidMetH Tryz.prog laidL w) : GV w := by
  rw [MakeChecks.laidMetH_plain _ _ _ (by kernel_rfl)] at h
  obtain ⟨ps, ⟨i2, t2, cs2, f2, p2, q2, hg2, ht2, hv2, hd2, ⟨i3, t3, cs3, f3, p3, q3, hg3, ht3, hv3, hd3, ⟨i1, t1, cs1, f1, p1, q1, hg1, ht1, hv1, hd1, ⟨i0, t0, cs0, f0, p0, q0, hg0, ht0, hv0, hd0, _, _⟩, _⟩, _⟩, _⟩, _, _⟩ := h
  obtain rfl := Option.some.inj (gn0.symm.trans hg0)
  obtain rfl := Option.some.inj (gt0.symm.trans ht0)
  obtain rfl := Option.some.inj (gn1.symm.trans hg1)
  obtain rfl := Option.some.inj (gt1.symm.trans ht1)
  obtain rfl := Option.some.inj (gn2.symm.trans hg2)
  obtain rfl := Option.some.inj (gt2.symm.trans ht2)
  obtain rfl := Option.some.inj (gn3.symm.trans hg3)
  obtain rfl := Option.some.inj (gt3.symm.trans ht3)
  obtain ⟨ds0, e0, l0⟩ := cells_of_array fKind Tryz.underlying93 (c := 4) (by kernel_rfl) (by kernel_rfl) kind_cells hd0
  have k0 := dv0
  rw [e0] at k0
  obtain ⟨ds1, e1, l1⟩ := cells_of_array fInt Tryz.underlying221 (c := 1) (by kernel_rfl) (by kernel_rfl) (int_cells Tryz.underlying182) hd1
  have k1 := dv1
  rw [e1] at k1
  obtain ⟨ds2, e2, l2⟩ := cells_of_array fInt Tryz.underlying247 (c := 1) (by kernel_rfl) (by kernel_rfl) (int_cells Tryz.underlying5) hd2
  have k2 := dv2
  rw [e2] at k2
  obtain ⟨ds3, e3, l3⟩ := cells_of_array fInt Tryz.underlying248 (c := 1) (by kernel_rfl) (by kernel_rfl) (int_cells Tryz.underlying5) hd3
  have k3 := dv3
  rw [e3] at k3
  exact ⟨cells_eq gn0 hv0 (block_of hs (by decide) sh0) (l0.trans k0), cells_eq gn1 hv1 (block_of hs (by decide) sh1) (l1.trans k1), cells_eq gn2 hv2 (block_of hs (by decide) sh2) (l2.trans k2), cells_eq gn3 hv3 (block_of hs (by decide) sh3) (l3.trans k3)⟩
end
end Go.Proofs.YtipfdkecodadnaaGreatDoor
