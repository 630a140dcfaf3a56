/- Walks over the timber seat: sorting intervals by where they begin. Walks over the timber seat: the sort, over a row of the call's own. Walks over the timber seat: what of a board is taken. Walks over the timber seat: openings. Walks over the timber seat: Clear. -/
import Derived.Test.YtnjbhidncicfiaaD2
import Derived.Shelf.SlSortCmp.WholeK
import Derived.Test.YtnjbhidncicfiaaMC
import Derived.Laws.AppendOwn
import Derived.Maps.AppendAt
import Derived.OwnWalk
import Derived.Shelf.SlSortCmp.NoneTotal
import Derived.Handy
namespace Go.Proofs.Ytnjbhidncicfiaa
open Go.Shelf Go.RowKit Go.Lib Go.Sort
def Try.sortIv_ren : Go.Shelf.Ren := ⟨fun | 6 => 130 | 15 => 129 | 14 => 144 | 28 => 142 | 29 => 143 | 20 => 151 | 21 => 152 | 22 => 153 | 23 => 154 | 24 => 155 | 25 => 156 | 26 => 157 | 27 => 158 | 46 => 160 | 47 => 147 | 48 => 148 | 49 => 161 | 50 => 162 | 57 => 163 | n => n, fun | 22 => 84 | 24 => 50 | 25 => 175 | 3 => 3 | 39 => 173 | 0 => 0 | 53 => 184 | 55 => 186 | 4 => 4 | 46 => 178 | 45 => 177 | 50 => 129 | 5 => 5 | 9 => 9 | 66 => 188 | 70 => 192 | 76 => 199 | 77 => 46 | n => n, fun | n => n⟩
theorem Try.sortIv : Go.Proofs.SlLaysF0.n6 Try.prog Try.sortIv_ren := {
  mixed := by kernel_rfl
  f6 := ⟨Try.f130.name, by decide, Try.func130.trans (congrArg some (by kernel_rfl))⟩
  f14 := ⟨Try.f144.name, by decide, Try.func144.trans (congrArg some (by kernel_rfl))⟩
  f15 := Try.func129.trans (congrArg some (by kernel_rfl))
  f20 := ⟨Try.f151.name, by decide, Try.func151.trans (congrArg some (by kernel_rfl))⟩
  f21 := ⟨Try.f152.name, by decide, Try.func152.trans (congrArg some (by kernel_rfl))⟩
  f22 := ⟨Try.f153.name, by decide, Try.func153.trans (congrArg some (by kernel_rfl))⟩
  f23 := ⟨Try.f154.name, by decide, Try.func154.trans (congrArg some (by kernel_rfl))⟩
  f24 := ⟨Try.f155.name, by decide, Try.func155.trans (congrArg some (by kernel_rfl))⟩
  f25 := ⟨Try.f156.name, by decide, Try.func156.trans (congrArg some (by kernel_rfl))⟩
  f26 := ⟨Try.f157.name, by decide, Try.func157.trans (congrArg some (by kernel_rfl))⟩
  f27 := ⟨Try.f158.name, by decide, Try.func158.trans (congrArg some (by kernel_rfl))⟩
  f28 := Try.func142.trans (congrArg some (by kernel_rfl))
  f29 := Try.func143.trans (congrArg some (by kernel_rfl))
  f46 := ⟨Try.f160.name, by decide, Try.func160.trans (congrArg some (by kernel_rfl))⟩
  f47 := Try.func147.trans (congrArg some (by kernel_rfl))
  f48 := Try.func148.trans (congrArg some (by kernel_rfl))
  f49 := ⟨Try.f161.name, by decide, Try.func161.trans (congrArg some (by kernel_rfl))⟩
  f50 := ⟨Try.f162.name, by decide, Try.func162.trans (congrArg some (by kernel_rfl))⟩
  f57 := ⟨Try.f163.name, by decide, Try.func163.trans (congrArg some (by kernel_rfl))⟩
  t0 := Try.underlying0
  a0 := Try.isAgg0
  z0 := Try.sizeOf0
  v0 := Try.zeroValue0
  t3 := Try.underlying3
  a3 := Try.isAgg3
  z3 := Try.sizeOf3
  v3 := Try.zeroValue3
  t4 := Try.underlying4
  a4 := Try.isAgg4
  z4 := Try.sizeOf4
  v4 := Try.zeroValue4
  t5 := Try.underlying5
  a5 := Try.isAgg5
  z5 := Try.sizeOf5
  v5 := Try.zeroValue5
  t9 := Try.underlying9
  a9 := Try.isAgg9
  z9 := Try.sizeOf9
  v9 := Try.zeroValue9
  t22 := Try.underlying84
  a22 := Try.isAgg84
  z22 := Try.sizeOf84
  v22 := Try.zeroValue84
  t25 := Try.underlying175
  a25 := Try.isAgg175
  z25 := Try.sizeOf175
  v25 := Try.zeroValue175
  t39 := Try.underlying173
  a39 := Try.isAgg173
  z39 := Try.sizeOf173
  v39 := Try.zeroValue173
  t45 := Try.underlying177
  a45 := Try.isAgg177
  z45 := Try.sizeOf177
  v45 := Try.zeroValue177
  t46 := Try.underlying178
  a46 := Try.isAgg178
  z46 := Try.sizeOf178
  v46 := Try.zeroValue178
  t50 := Try.underlying129
  a50 := Try.isAgg129
  z50 := Try.sizeOf129
  v50 := Try.zeroValue129
  t53 := Try.underlying184
  a53 := Try.isAgg184
  z53 := Try.sizeOf184
  v53 := Try.zeroValue184
  t55 := Try.underlying186
  a55 := Try.isAgg186
  z55 := Try.sizeOf186
  v55 := Try.zeroValue186
  t66 := Try.underlying188
  a66 := Try.isAgg188
  z66 := Try.sizeOf188
  v66 := Try.zeroValue188
  t70 := Try.underlying192
  a70 := Try.isAgg192
  z70 := Try.sizeOf192
  v70 := Try.zeroValue192
  t76 := Try.underlying199
  a76 := Try.isAgg199
  z76 := Try.sizeOf199
  v76 := Try.zeroValue199
  t77 := Try.underlying46
  a77 := Try.isAgg46
  z77 := Try.sizeOf46
  v77 := Try.zeroValue46 }
def encIv (x : Int × Int) : List Value := [.int .i64 x.1, .int .i64 x.2]
set_option maxHeartbeats 1000000 in
theorem compare_any (x y : Int) (w : World) : Calls Try.prog 132 #[.int .i64 x, .int .i64 y] w fun e w' => e = .returned (.int .i64 (Lib.compareInt x y)) ∧ w = w' := by
  go_enter Try.func132, Try.ntmps132
  go_wp2_with go_in
  all_goals
    go_ret
    refine ⟨ret_int ?_, rfl⟩
    unfold Lib.compareInt
    first | (rw [if_pos (by omega)]) | (rw [if_neg (by omega), if_pos (by omega)]) | (rw [if_neg (by omega), if_neg (by omega)])
set_option maxHeartbeats 1000000 in
theorem closure131 (x y : Int × Int) (W : World) : Calls Try.prog 131 #[.agg #[.int .i64 x.1, .int .i64 x.2], .agg #[.int .i64 y.1, .int .i64 y.2]] W fun e w' => e = .returned (.int .i64 (Lib.compareInt x.1 y.1)) ∧ ∃ q os', w' = grow (W.drewN q) os' := by
  have hcon := fun W' => Lib.hid (compare_any x.1 y.1 W')
  generalize Lib.compareInt x.1 y.1 = r at hcon ⊢
  go_enter Try.func131, Try.ntmps131
  go_wp2_with (go_at_call 132; refine (Calls.mono (hcon _).out ?_); rintro e w' ⟨rfl, rfl⟩)
  go_ret
  exact ⟨rfl, 0, _, by rw [alloc_eq_grow, alloc_eq_grow, grow_grow]; rfl⟩
theorem cmpLays131 (blk off size : Nat) (w : World) : CmpLays Try.prog 131 #[] encIv 2 (fun x y => Lib.compareInt x.1 y.1) blk off size w :=
  fun _ _ _ _ x y => closure131 x y _
theorem ltLo (x y : Int × Int) : ltOf (fun x y : Int × Int => Lib.compareInt x.1 y.1) x y = decide (x.1 < y.1) := by
  unfold ltOf Lib.compareInt
  by_cases h1 : x.1 < y.1
  · simp [h1]
  · by_cases h2 : y.1 < x.1 <;> simp [h1, h2]
theorem swoLo : SWO (ltOf fun x y : Int × Int => Lib.compareInt x.1 y.1) where
  irrefl x := by rw [ltLo]; simp
  trans x y z h1 h2 := by rw [ltLo] at *; simp at *; omega
  ntrans x y z h1 h2 := by rw [ltLo] at *; simp at *; omega
theorem isAgg50 (w : World) : (isAgg 50).run Try.prog w = .ok true w := by kernel_rfl
theorem sizeOf50 (w : World) : (Go.sizeOf 50).run Try.prog w = .ok 2 w := by kernel_rfl
def ivCells (xs : List Iv) : List Value := xs.flatMap encIv
set_option maxHeartbeats 1000000 in
/-- The sort of a row that is held: a permutation, by where they begin. -/
theorem sortIv_any (g cap : Nat) (d : Array Iv) (w : World) (hH : HoldsK encIv 2 w g 0 d) (hblk : g < w.heap.size) (hsz : d.size < 4611686018427387904) :
    Calls Try.prog 130 #[.slice (some ⟨g, 0, none⟩) d.size cap, .func (.func 131) #[] #[]] w fun e w' => e = .returned (.tuple #[]) ∧ ∃ d' n os, PermIn 0 d.size d d' ∧ SortedIn (ltOf fun x y : Int × Int => Lib.compareInt x.1 y.1) 0 d.size d' ∧ w' = sortWorldK encIv 2 w g 0 n d' os := by
  have eg : ∀ args w, (callFunc 131 args).run Try.prog w = .ok (.enter 131 args) w := enters_of Try.func131 (by kernel_rfl) rfl
  exact AnyQ.slices_SortFunc Try.sortIv 2 isAgg50 sizeOf50 encIv (fun _ => rfl) (fun x v hv => by simp [encIv] at hv; rcases hv with rfl | rfl <;> rfl) (fun x y => Lib.compareInt x.1 y.1) swoLo 131 #[] g 0 cap d w eg (cmpLays131 g 0 d.size w) hH hblk hsz
theorem perm_of {d d' : Array Iv} (h : PermIn 0 d.size d d') : d'.toList.Perm d.toList := by
  obtain ⟨h1, -, h3⟩ := h
  have e1 : d'.extract 0 d.size = d' := by rw [← h1]; simp
  have e2 : d.extract 0 d.size = d := by simp
  rw [e1, e2] at h3
  exact h3
theorem sorted_of {d : Array Iv} {n : Nat} (hn : n = d.size) (h : SortedIn (ltOf fun x y : Int × Int => Lib.compareInt x.1 y.1) 0 n d) : d.toList.Pairwise (fun a b => a.1 ≤ b.1) := by
  subst hn
  rw [List.pairwise_iff_getElem]
  intro i j hi hj hij
  have hj' : j < d.size := by simpa using hj
  have := h i j (Nat.zero_le _) hij hj'
  rw [ltLo, getElem!_pos d j hj', getElem!_pos d i (by omega)] at this
  simp only [Array.getElem_toList]
  have := of_decide_eq_false this
  omega
end Go.Proofs.Ytnjbhidncicfiaa
namespace Go.Proofs.Ytnjbhidncicfiaa
open Go.Shelf Go.RowKit Go.Lib Go.Sort

theorem ivCells_length (xs : List Iv) : (ivCells xs).length = xs.length * 2 := by
  unfold ivCells
  induction xs with
  | nil => rfl
  | cons x r ih => rw [List.flatMap_cons, List.length_append, ih]; simp [encIv]; omega
theorem ivCells_get : ∀ (xs : List Iv) (j : Nat), j < xs.length * 2 → (ivCells xs)[j]? = some ((encIv (xs[j / 2]!))[j % 2]!)
  | [], j, h => absurd h (by simp)
  | x :: r, 0, _ => rfl
  | x :: r, 1, _ => rfl
  | x :: r, j + 2, h => by
    have ih := ivCells_get r j (by simp at h; omega)
    rw [show ivCells (x :: r) = encIv x ++ ivCells r from rfl]
    rw [List.getElem?_append_right (by simp [encIv]), show j + 2 - (encIv x).length = j by simp [encIv], ih]
    rw [show (j + 2) / 2 = j / 2 + 1 by omega, show (j + 2) % 2 = j % 2 by omega]
    rfl
theorem flat_get (d : Array Iv) (t : Nat) (h : t < d.size * 2) : (ivCells d.toList)[t]? = some ((flatK encIv 2 d)[t]!) := by
  rw [get_flatK encIv 2 d t h, ivCells_get d.toList t (by simpa using h)]
  congr 2
  have h2 : t / 2 < d.size := by omega
  rw [getElem!_pos d (t / 2) h2, getElem!_pos d.toList (t / 2) (by simpa using h2)]
  simp
set_option maxHeartbeats 1000000 in
theorem sort_own {base n : Nat} {v : Value} {xs : List Iv} (w : World) (hown : w.ownsRow base 50 2 v n (ivCells xs)) (hn : n = xs.length) (hpos : 0 < n) (hle : n ≤ 1000) :
    Calls Try.prog 130 #[v, .func (.func 131) #[] #[]] w fun e w' => e = .returned (.tuple #[]) ∧ ∃ ys : List Iv, ys.Perm xs ∧ ys.Pairwise (fun a b => a.1 ≤ b.1) ∧ w'.ownsRow base 50 2 v n (ivCells ys) ∧ w.grownBy w' v.ownBlock := by
  obtain ⟨hl, ⟨-, h0⟩ | ⟨g, cap, cur, rfl, hb, hh, hnc, hcm, hcs, htk⟩⟩ := hown
  · omega
  have hg : g < w.heap.size := (Array.getElem?_eq_some_iff.1 hh).1
  have hsz : xs.toArray.size = n := by simp [hn]
  have hget : ∀ t, t < n * 2 → cur[t]? = some ((flatK encIv 2 xs.toArray)[t]!) := fun t ht => by
    have h1 := flat_get xs.toArray t (by rw [hsz]; exact ht)
    rw [← h1, show xs.toArray.toList = xs by simp, ← htk, List.getElem?_take_of_lt ht]
    simp
  have hH : HoldsK encIv 2 w g 0 xs.toArray := fun j hj => by
    rw [size_flatK, hsz] at hj
    refine ⟨?_, ?_⟩
    · rw [Nat.zero_add]
      have := hget j hj
      unfold World.cell?
      simp only [hh]
      exact this
    · unfold World.frozen?
      simp [hh]
  have S := sortIv_any g cap xs.toArray w hH hg (by rw [hsz]; omega)
  rw [hsz] at S
  refine S.mono fun e w' ⟨he, d', m, os, hp, hs, hw⟩ => ⟨he, d'.toList, ?_, ?_, ?_, ?_⟩
  · have := perm_of (d := xs.toArray) (d' := d') (by rw [hsz]; exact hp)
    simpa using this
  · exact sorted_of (hp.1.trans hsz).symm hs
  · have hds : d'.size = n := hp.1.trans hsz
    have hW : w'.heap[g]? = some (.cells (putCells id 0 (flatK encIv 2 d') cur) 50 (0, 0)) := by
      subst hw
      show (w.heap.modify g (onCells (putCells id 0 (flatK encIv 2 d'))) ++ os)[g]? = _
      rw [Array.getElem?_append_left (by simpa using hg), Array.getElem?_modify, if_pos rfl, hh]
      rfl
    refine ⟨by rw [ivCells_length]; simp [hds], .inr ⟨g, cap, _, rfl, hb, hW, hnc, hcm, by simp [putCells, hcs], ?_⟩⟩
    apply List.ext_getElem?
    intro t
    by_cases ht : t < n * 2
    · rw [List.getElem?_take_of_lt ht, flat_get d' t (by omega)]
      have h1 := hget t ht
      have h2 : t < (flatK encIv 2 d').size := by rw [size_flatK]; omega
      simp [putCells, h1]
      intro h3
      omega
    · rw [List.getElem?_eq_none (by simp; omega), List.getElem?_eq_none (by rw [ivCells_length]; simp; omega)]
  · subst hw
    refine ⟨rfl, rfl, rfl, by simp [sortWorldK, putRowK, putRow, mapBlock, grow, Sort.ahead], fun i hi hne => ?_⟩
    have hig : i ≠ g := fun e => hne (by rw [e]; rfl)
    show (w.heap.modify g (onCells (putCells id 0 (flatK encIv 2 d'))) ++ os)[i]? = _
    rw [Array.getElem?_append_left (by simpa using hi), Array.getElem?_modify, if_neg (Ne.symm hig)]
end Go.Proofs.Ytnjbhidncicfiaa
namespace Go.Proofs.Ytnjbhidncicfiaa
open Go.RowKit

theorem own_ge {w : World} {base e : Nat} {size n : Nat} {v : Value} {xs : List Value} (h : w.ownsRow base e size v n xs) : ∀ j, v.ownBlock = some j → base ≤ j := by
  intro j hj
  rcases h.2 with ⟨rfl, -⟩ | ⟨g, cap, cur, rfl, hb, -⟩
  · cases hj
  · simp [Value.ownBlock] at hj; omega
theorem cell_two_new (w : World) (x y : Value) (t : TypeId) {blk : Nat} (hblk : blk = w.heap.size) : ∀ j u, [x, y][j]? = some u → (w.alloc (.cells #[x, y] t)).cell? ((⟨blk, 0, none⟩ : Addr).add j) = some u := by
  subst hblk
  intro j u h
  match j, h with
  | 0, h => simp at h; subst h; simp [Addr.add, go_sem]
  | 1, h => simp at h; subst h; simp [Addr.add, go_sem]
  | j + 2, h => simp at h
theorem two_oneCell (a b : Int) : ∀ u ∈ [Value.int .i64 a, .int .i64 b], u.oneCell' = true := by
  intro u hu
  simp at hu
  rcases hu with rfl | rfl <;> rfl
theorem info50 : (Try.prog.info? 50).map (fun i => (i.zero, i.size, i.bytes)) = some (some (.agg #[.int .i64 0, .int .i64 0]), 2, 16) := by kernel_rfl
theorem ivCells_snoc (xs : List Iv) (x : Iv) : ivCells (xs ++ [x]) = ivCells xs ++ [.int .i64 x.1, .int .i64 x.2] := by
  unfold ivCells; rw [List.flatMap_append]; rfl
theorem taken_succ {ds : List Rc} {k : Nat} (h : k < ds.length) : ((ds.take (k + 1)).map fun d => (d.x1, d.x2)) = ((ds.take k).map fun d => (d.x1, d.x2)) ++ [(ds[k].x1, ds[k].x2)] := by
  rw [List.take_succ_eq_append_getElem h, List.map_append]; rfl
/-- What the openings' loop has behind k intervals: the open ones, and from where it is free. -/
def opSt : List Iv → List Iv × Int → List Iv × Int
  | [], s => s
  | t :: r, s => opSt r ((if s.2 < t.1 then s.1 ++ [(s.2, t.1)] else s.1), max s.2 t.2)
theorem opSt_opn : ∀ (ts : List Iv) (acc : List Iv) (free : Int), (opSt ts (acc, free)).1 = acc ++ opn free ts
  | [], acc, free => by show acc = acc ++ []; rw [List.append_nil]
  | t :: r, acc, free => by
    show (opSt r ((if free < t.1 then acc ++ [(free, t.1)] else acc), max free t.2)).1 = acc ++ (bif decide (free < t.1) then (free, t.1) :: opn (max free t.2) r else opn (max free t.2) r)
    rw [opSt_opn]
    by_cases h : free < t.1
    · rw [if_pos h, decide_eq_true h, List.append_assoc]; rfl
    · rw [if_neg h, decide_eq_false h]; rfl
theorem opSt_snoc : ∀ (ts : List Iv) (s : List Iv × Int) (t : Iv), opSt (ts ++ [t]) s = ((if (opSt ts s).2 < t.1 then (opSt ts s).1 ++ [((opSt ts s).2, t.1)] else (opSt ts s).1), max (opSt ts s).2 t.2)
  | [], _, _ => rfl
  | u :: r, s, t => by
    show opSt (r ++ [t]) _ = _
    rw [opSt_snoc]; rfl
theorem opSt_take {ts : List Iv} {k : Nat} (s : List Iv × Int) (h : k < ts.length) : opSt (ts.take (k + 1)) s = ((if (opSt (ts.take k) s).2 < ts[k].1 then (opSt (ts.take k) s).1 ++ [((opSt (ts.take k) s).2, ts[k].1)] else (opSt (ts.take k) s).1), max (opSt (ts.take k) s).2 ts[k].2) := by
  rw [List.take_succ_eq_append_getElem h, opSt_snoc]
theorem opSt_len : ∀ (ts : List Iv) (s : List Iv × Int), (opSt ts s).1.length ≤ s.1.length + ts.length
  | [], s => by simp [opSt]
  | t :: r, s => by
    show (opSt r _).1.length ≤ _
    refine Nat.le_trans (opSt_len r _) ?_
    split
    · simp only [List.length_append, List.length_cons, List.length_nil]; omega
    · simp only [List.length_cons]; omega
/-- The cells of an interval in an owned row. -/
theorem own_cell {w : World} {base n : Nat} {v : Value} {xs : List Iv} (h : w.ownsRow base 50 2 v n (ivCells xs)) (hn : n = xs.length) {k : Nat} (hk : k < xs.length) :
    ∃ g cap, v = .slice (some ⟨g, 0, none⟩) n cap ∧ base ≤ g ∧ g < w.heap.size ∧ n ≤ cap ∧ cap ≤ maxLen ∧ w.cell? ⟨g, 0 + k * 2, none⟩ = some (.int .i64 xs[k].1) ∧ w.cell? ⟨g, 0 + k * 2 + 1, none⟩ = some (.int .i64 xs[k].2) ∧ (∀ o, w.frozen? ⟨g, o, none⟩ = false) := by
  obtain ⟨hl, ⟨-, h0⟩ | ⟨g, cap, cur, rfl, hb, hh, hnc, hcm, hcs, htk⟩⟩ := h
  · omega
  · have get : ∀ t, t < n * 2 → cur[t]? = (ivCells xs)[t]? := fun t ht => by
      rw [← htk, List.getElem?_take_of_lt ht]; simp
    have g0 := get (k * 2) (by omega)
    have g1 := get (k * 2 + 1) (by omega)
    rw [ivCells_get xs _ (by omega), show k * 2 / 2 = k by omega, show k * 2 % 2 = 0 by omega, getElem!_pos xs k hk] at g0
    rw [ivCells_get xs _ (by omega), show (k * 2 + 1) / 2 = k by omega, show (k * 2 + 1) % 2 = 1 by omega, getElem!_pos xs k hk] at g1
    refine ⟨g, cap, rfl, hb, (Array.getElem?_eq_some_iff.1 hh).1, hnc, hcm, ?_, ?_, ?_⟩
    · unfold World.cell?; simp only [hh, Nat.zero_add]; exact g0
    · unfold World.cell?; simp only [hh, Nat.zero_add]; exact g1
    · intro o; unfold World.frozen?; simp [hh]
end Go.Proofs.Ytnjbhidncicfiaa
namespace Go.Proofs.Ytnjbhidncicfiaa
open Go.Shelf Go.RowKit Go.Lib Go.Sort

theorem own_form {w : World} {base n : Nat} {v : Value} {xs : List Iv} (h : w.ownsRow base 50 2 v n (ivCells xs)) (hn : 0 < n) : ∃ g cap, v = .slice (some ⟨g, 0, none⟩) n cap ∧ g < w.heap.size ∧ n ≤ cap ∧ cap ≤ maxLen := by
  obtain ⟨hl, ⟨-, h0⟩ | ⟨g, cap, cur, rfl, hb, hh, hnc, hcm, hcs, htk⟩⟩ := h
  · omega
  · exact ⟨g, cap, rfl, (Array.getElem?_eq_some_iff.1 hh).1, hnc, hcm⟩
theorem own_lt {w : World} {base n : Nat} {v : Value} {xs : List Value} (h : w.ownsRow base 50 2 v n xs) : ∀ j, v.ownBlock = some j → j < w.heap.size := by
  intro j hj
  rcases h.2 with ⟨rfl, -⟩ | ⟨g, cap, cur, rfl, hb, hh, -⟩
  · cases hj
  · simp [Value.ownBlock] at hj; subst hj; exact (Array.getElem?_eq_some_iff.1 hh).1
/-- The sort, an empty slice too. -/
theorem sort_any {base n : Nat} {v : Value} {xs : List Iv} (w : World) (hown : w.ownsRow base 50 2 v n (ivCells xs)) (hn : n = xs.length) (hle : n ≤ 1000) :
    Calls Try.prog 130 #[v, .func (.func 131) #[] #[]] w fun e w' => e = .returned (.tuple #[]) ∧ ∃ ys : List Iv, ys.Perm xs ∧ ys.Pairwise (fun a b => a.1 ≤ b.1) ∧ w'.ownsRow base 50 2 v n (ivCells ys) ∧ w.grownBy w' v.ownBlock := by
  by_cases h0 : n = 0
  · have hx : xs = [] := List.eq_nil_of_length_eq_zero (by omega)
    have hform : ∃ p cap, v = .slice p 0 cap := by
      rcases hown.2 with ⟨rfl, -⟩ | ⟨g, cap, cur, rfl, -⟩
      · exact ⟨_, _, rfl⟩
      · subst h0; exact ⟨_, _, rfl⟩
    obtain ⟨p, cap, rfl⟩ := hform
    refine (AnyF.slices_SortFunc_none Try.sortIv p cap (.func (.func 131) #[] #[]) w).mono fun e w' ⟨he, hw⟩ => ⟨he, [], ?_, List.Pairwise.nil, ?_, ?_⟩
    · rw [hx]
    · rw [hw, ← hx]; exact hown
    · rw [hw]; exact World.grownBy.refl w _
  · exact sort_own w hown hn (by omega) hle
set_option maxHeartbeats 4000000 in
set_option maxRecDepth 20000 in
theorem openings_any {base n : Nat} {v : Value} {xs : List Iv} {en : Int} (w : World) (hown : w.ownsRow base 50 2 v n (ivCells xs)) (hn : n = xs.length) (hle : n ≤ 60) (hbase : base ≤ w.heap.size) :
    Calls Try.prog 119 #[v, .int .i64 en] w fun e w' => ∃ (r : Value) (m : Nat) (ys : List Iv), e = .returned r ∧ ys.Perm xs ∧ ys.Pairwise (fun a b => a.1 ≤ b.1) ∧ m = (opn 0 (ys ++ [(en, en)])).length ∧ w'.ownsRow base 50 2 r m (ivCells (opn 0 (ys ++ [(en, en)]))) ∧ w.grownBy w' v.ownBlock := by
  have S := Lib.hid (sort_any w hown hn (by omega))
  obtain ⟨i0, hi, hz0, hz1, hz2⟩ := info_parts info50
  have HN := Lib.hid hn
  clear hown hn
  go_enter Try.func119, Try.ntmps119
  go_wp2_with (first | (go_at_call 130; (refine Calls.mono S.out ?_); rintro e w1 ⟨rfl, ys, hp, hs, hown1, hg1⟩; have hb1 : base ≤ w1.heap.size := Nat.le_trans hbase hg1.size) | (at_builtin; refine wpList_append_own_at _ rfl _ _ 84 rfl base 50 i0 (.agg #[.int .i64 0, .int .i64 0]) 2 16 Try.underlying84 hi hz0 hz1 hz2 rfl (by decide) _ _ _ rfl (hown1.alloc _) ⟨w1.heap.size, 0, none⟩ 1 1 [.int .i64 en, .int .i64 en] rfl rfl (cell_two_new _ _ _ _ rfl) (two_oneCell _ _) (by unfold maxLen; omega) (by omega) (by simp; omega) ?_; intro v' w2 hown2 hgrow2 hnil2 hloc2; rw [← ivCells_snoc ys (en, en)] at hown2; obtain ⟨g2, cap2, rfl, hg2, hnc2, hcm2⟩ := own_form hown2 (by omega)))
  have hlen : (ys ++ [(en, en)]).length = n + 1 := by rw [List.length_append, hp.length_eq, ← HN.out]; rfl
  obtain ⟨ts, hts⟩ : ∃ ts, ys ++ [(en, en)] = ts := ⟨_, rfl⟩
  rw [hts] at hown2 hlen
  have HG : Hid (w.grownBy w2 v.ownBlock) := Lib.hid (by
    have a1 := hg1
    refine ⟨hgrow2.os.trans a1.os, hgrow2.tape.trans a1.tape, hgrow2.output.trans a1.output, Nat.le_trans a1.size (Nat.le_trans (by simp) hgrow2.size), fun i hi hne => ?_⟩
    rw [hgrow2.block i (by simp; have := a1.size; omega) hne, Below.heap_alloc w1 _ i (by have := a1.size; omega)]
    exact a1.block i hi hne)
  have HOWN := Lib.hid hown2
  have HP := Lib.hid hp
  have HS := Lib.hid hs
  have HTS := Lib.hid hts
  have hb2 : base ≤ w2.heap.size := Nat.le_trans hb1 (Nat.le_trans (by simp) hgrow2.size)
  clear hown1 hown2 hp hs hts hgrow2 hnil2 hloc2 hg1 hb1 S
  go_loopw [5, 6, 18] (fun ov fr i wr => ∃ k : Nat, k ≤ n + 1 ∧ i = .int .i64 k ∧ fr = .int .i64 (opSt (ts.take k) ([], 0)).2 ∧ wr.ownsRow w2.heap.size 50 2 ov (opSt (ts.take k) ([], 0)).1.length (ivCells (opSt (ts.take k) ([], 0)).1) ∧ Below w2.heap.size w2 wr) (fun _ _ i _ => n + 1 - (intOf i).toNat)
  case atStart => exact ⟨0, Nat.zero_le _, rfl, rfl, ⟨rfl, .inl ⟨rfl, rfl⟩⟩, Below.refl _ _⟩
  case round =>
    obtain ⟨k, hk, rfl, rfl, hov, hbw⟩ := hrel
    have HB := Lib.hid hbw
    by_cases hlt : k < n + 1
    · have hkl : k < ts.length := by omega
      have hstep := Lib.hid (opSt_take ([], 0) hkl)
      have hlenk := opSt_len (ts.take k) ([], 0)
      obtain ⟨g3, cap3, e3, -, hg3, hn3, hc3, c0, c1, -⟩ := own_cell HOWN.out hlen.symm hkl
      injection e3 with e31 e32 e33
      injection e31 with e31
      injection e31 with e31
      subst e31 e33
      rw [Nat.zero_add] at c0 c1
      have d0 := (hbw.cell (p := ⟨g2, k * 2, none⟩) hg2).trans c0
      have d1 := (hbw.cell (p := ⟨g2, k * 2 + 1, none⟩) hg2).trans c1
      obtain ⟨t, ht⟩ : ∃ t, ts[k] = t := ⟨_, rfl⟩
      rw [ht] at d0 d1 hstep
      obtain ⟨t1, t2⟩ := t
      simp only at d0 d1 hstep
      obtain ⟨st, hst⟩ : ∃ st, opSt (ts.take k) ([], 0) = st := ⟨_, rfl⟩
      rw [hst] at hov hstep hlenk ⊢
      obtain ⟨op, fr⟩ := st
      simp only at hov hstep hlenk ⊢
      have hop : op.length ≤ 61 := by rw [List.length_take] at hlenk; simp at hlenk; omega
      have hwr := hbw.size
      have hbr : g2 < wr.heap.size := by omega
      clear c0 c1 ht hst hbw hlenk
      by_cases hf : fr < t1
      · have hstep2 : Hid (opSt (ts.take (k + 1)) ([], 0) = (op ++ [(fr, t1)], max fr t2)) := Lib.hid (by rw [hstep.out, if_pos hf])
        go_wp2_with (at_builtin; refine wpList_append_own_at _ rfl _ _ 84 rfl w2.heap.size 50 i0 (.agg #[.int .i64 0, .int .i64 0]) 2 16 Try.underlying84 hi hz0 hz1 hz2 rfl (by decide) _ _ _ rfl ((hov.alloc _).alloc _) ⟨wr.heap.size + 1, 0, none⟩ 1 1 [.int .i64 fr, .int .i64 t1] rfl rfl (cell_two_new _ _ _ _ (by simp)) (two_oneCell _ _) (by unfold maxLen; omega) (by omega) (by simp; omega) ?_; intro v3 w3 hown3 hgrow3 hnil3 hloc3; have m1 : w3.cell? ⟨wr.heap.size, 1, none⟩ = some (.int .i64 t2) := hgrow3.cell (by simp [go_sem]) (by intro e; have := own_lt hov _ e.symm; simp at this))
        all_goals
          go_roundw
          case rel =>
            refine ⟨k + 1, by omega, by go_num, ?_, ?_, ?_⟩
            · first | (rw [hstep2.out]; done) | (rw [hstep2.out]; show Value.int .i64 _ = Value.int .i64 (max fr t2); congr 1; omega)
            · rw [hstep2.out]; simp only; rw [ivCells_snoc]; simpa using hown3
            · exact (((HB.out.alloc HB.out.size _).alloc (by have := HB.out.size; simp; omega) _)).grown hgrow3 (by have := HB.out.size; simp; omega) (fun j hj => own_ge hov j hj)
          case measure => first | (simp [intOf]; done) | (simp [intOf]; omega)
      · have hstep2 : Hid (opSt (ts.take (k + 1)) ([], 0) = (op, max fr t2)) := Lib.hid (by rw [hstep.out, if_neg hf])
        go_wp2
        all_goals
          go_roundw
          case rel =>
            refine ⟨k + 1, by omega, by go_num, ?_, ?_, ?_⟩
            · first | (rw [hstep2.out]; done) | (rw [hstep2.out]; show Value.int .i64 _ = Value.int .i64 (max fr t2); congr 1; omega)
            · rw [hstep2.out]; exact hov.alloc _
            · exact HB.out.alloc HB.out.size _
          case measure => first | (simp [intOf]; done) | (simp [intOf]; omega)
    · have hk' : k = n + 1 := by omega
      have hall : ts.take k = ts := List.take_of_length_le (by omega)
      rw [hall] at hov
      have hop := opSt_opn ts [] 0
      rw [List.nil_append] at hop
      rw [hop] at hov
      clear hbw
      subst hk'
      go_wp2
      go_ret
      exact ⟨_, _, ys, rfl, HP.out, HS.out, by rw [HTS.out], by rw [HTS.out]; exact ⟨hov.1, hov.2.imp id fun ⟨g, cap, cur, h1, h2, h3⟩ => ⟨g, cap, cur, h1, Nat.le_trans hb2 h2, h3⟩⟩, by
        have G := HG.out
        exact ⟨HB.out.os.trans G.os, HB.out.tape.trans G.tape, HB.out.output.trans G.output, Nat.le_trans G.size HB.out.size, fun i hi hne => (HB.out.block i (Nat.lt_of_lt_of_le hi G.size)).trans (G.block i hi hne)⟩⟩
end Go.Proofs.Ytnjbhidncicfiaa
namespace Go.Proofs.Ytnjbhidncicfiaa
open Go.Shelf Go.RowKit Go.Lib Go.Sort

set_option maxHeartbeats 4000000 in
set_option maxRecDepth 20000 in
theorem clearOf_any {nm sp : ByteArray} {ln wd th cu mo : Int} {D : Option Addr} {dn dc : Nat} {ds : List Rc} (hb : BdOk ⟨nm, sp, ln, wd, th, cu, mo, ds⟩) (w : World) (hd : RcRow w D dn ds) :
    Calls Try.prog 96 #[.agg #[.string nm, .string sp, .int .i64 ln, .int .i64 wd, .int .i64 th, .int .i64 cu, .int .i64 mo, .slice D dn dc]] w fun e w' => ∃ (r : Value) (cl : List Iv), e = .returned r ∧ IsClear ⟨nm, sp, ln, wd, th, cu, mo, ds⟩ cl ∧ w'.ownsRow w.heap.size 50 2 r cl.length (ivCells cl) ∧ Below w.heap.size w w' := by
  have hdl := hd.1
  have hdn := hb.dn
  simp only at hdn
  have hdn' : dn ≤ 60 := by omega
  obtain ⟨i0, hi, hz0, hz1, hz2⟩ := info_parts info50
  have HD := Lib.hid hd
  have HBD := Lib.hid hb
  have OP := fun base n v (xs : List Iv) wx hown hn hle hbase => Lib.hid (openings_any (en := ln) (base := base) (n := n) (v := v) (xs := xs) wx hown hn hle hbase)
  clear hd hb
  go_enter Try.func96, Try.ntmps96
  go_wp2
  go_loopw [3, 9] (fun v i wr => ∃ k : Nat, k ≤ dn ∧ i = .int .i64 k ∧ wr.ownsRow (w.heap.size + 1) 50 2 v k (ivCells ((ds.take k).map fun d => (d.x1, d.x2))) ∧ Below (w.heap.size + 1) (w.alloc (.cells #[.string nm, .string sp, .int .i64 ln, .int .i64 wd, .int .i64 th, .int .i64 cu, .int .i64 mo, .slice D dn dc] 34)) wr) (fun _ i _ => dn - (intOf i).toNat)
  case atStart => exact ⟨0, Nat.zero_le _, rfl, ⟨rfl, .inl ⟨rfl, rfl⟩⟩, Below.refl _ _⟩
  case round =>
    obtain ⟨k, hk, rfl, hov, hbw⟩ := hrel
    have HB := Lib.hid hbw
    have HBW := Lib.hid (show Below w.heap.size w wr from ((Below.refl w.heap.size w).alloc (Nat.le_refl _) _).trans (hbw.mono (by omega)))
    have kB : ∀ o, wr.cell? ⟨w.heap.size, o, none⟩ = _ := fun o => hbw.cell (p := ⟨w.heap.size, o, none⟩) (by simp)
    have q2 := kB 2; have q7 := kB 7
    simp [go_sem] at q2 q7
    have hsz := hbw.size
    simp at hsz
    clear kB hbw
    by_cases hlt : k < dn
    · have hkl : k < ds.length := by omega
      obtain ⟨bk, of, rfl, hbk, hx⟩ := HD.out.2 (by omega)
      have hxx := (hx k hkl).below HBW.out hbk
      have HT := Lib.hid (taken_succ hkl)
      clear hx
      obtain ⟨d, hdd⟩ : ∃ d, ds[k] = d := ⟨_, rfl⟩
      rw [hdd] at hxx HT
      clear hdd
      obtain ⟨a1, b1, a2, b2⟩ := d
      obtain ⟨c0, c1, c2, c3⟩ := hxx
      simp only at c0 c1 c2 c3 HT
      go_wp2_with (at_builtin; refine wpList_append_own_at _ rfl _ _ 84 rfl (w.heap.size + 1) 50 i0 (.agg #[.int .i64 0, .int .i64 0]) 2 16 Try.underlying84 hi hz0 hz1 hz2 rfl (by decide) _ _ _ rfl ((hov.alloc _).alloc _) ⟨wr.heap.size + 1, 0, none⟩ 1 1 [.int .i64 a1, .int .i64 a2] rfl rfl (cell_two_new _ _ _ _ (by simp)) (two_oneCell _ _) (by unfold maxLen; omega) (by omega) (by simp; omega) ?_; intro v3 w3 hown3 hgrow3 hnil3 hloc3)
      go_roundw
      case rel =>
        refine ⟨k + 1, by omega, by go_num, ?_, ?_⟩
        · rw [HT.out, ivCells_snoc]; exact hown3
        · exact (((HB.out.alloc hsz _).alloc (by simp; omega) _)).grown hgrow3 (by simp; omega) (fun j hj => own_ge hov j hj)
      case measure => simp [intOf]; omega
    · have hk' : k = dn := by omega
      have hall : ds.take k = ds := List.take_of_length_le (by omega)
      rw [hall] at hov
      subst hk'
      go_wp2_with (go_at_call 119; (refine Calls.mono (OP (w.heap.size + 1) k _ _ _ hov (by simp [hdl]) (by omega) (by omega)).out ?_); rintro e w3 ⟨r, m, ys, rfl, hp, hs, hm, hown3, hg3⟩)
      go_ret
      refine ⟨r, opn 0 (ys ++ [(ln, ln)]), rfl, clear_prog HBD.out hp hs, ?_, ?_⟩
      · rw [hm] at hown3
        exact ⟨hown3.1, hown3.2.imp id fun ⟨g, cap, cur, h1, h2, h3⟩ => ⟨g, cap, cur, h1, by omega, h3⟩⟩
      · exact HBW.out.grown hg3 HBW.out.size (fun j hj => by have := own_ge hov j hj; omega)
set_option maxHeartbeats 1000000 in
theorem clear_err {nm sp : ByteArray} {ln wd th cu mo : Int} {D : Option Addr} {dn dc : Nat} {ds : List Rc} {c : Int} (hc : bdCode ⟨nm, sp, ln, wd, th, cu, mo, ds⟩ = c) (hz : c ≠ 0) (hn1 : nm.size ≤ maxLen) (hn2 : sp.size ≤ maxLen) (hdn : dn ≤ maxLen) (w : World) (hd : RcRow w D dn ds) :
    Calls Try.prog 51 #[.agg #[.string nm, .string sp, .int .i64 ln, .int .i64 wd, .int .i64 th, .int .i64 cu, .int .i64 mo, .slice D dn dc]] w fun e w' => e = .returned (.tuple #[.slice none 0 0, .int .i64 c]) ∧ Below w.heap.size w w' := by
  have hBL : Below w.heap.size w (w.alloc (.cells #[.string nm, .string sp, .int .i64 ln, .int .i64 wd, .int .i64 th, .int .i64 cu, .int .i64 mo, .slice D dn dc] 34)) := (Below.refl _ _).alloc (Nat.le_refl _) _
  have BA := Lib.hid (boardAlone_any (dc := dc) hc hn1 hn2 hdn _ (RcRow.below hd hBL))
  have hzb : (c == 0) = false := beq_eq_false_iff_ne.2 hz
  clear hc hd
  go_enter Try.func51, Try.ntmps51
  go_wp2_with (go_at_call 88; (refine Calls.mono BA.out ?_); rintro e w1 ⟨rfl, hb1⟩)
  go_ret2
  exact ⟨rfl, hBL.trans (hb1.mono (by simp))⟩
set_option maxHeartbeats 1000000 in
theorem clear_ok {nm sp : ByteArray} {ln wd th cu mo : Int} {D : Option Addr} {dn dc : Nat} {ds : List Rc} (hc : bdCode ⟨nm, sp, ln, wd, th, cu, mo, ds⟩ = 0) (hn1 : nm.size ≤ maxLen) (hn2 : sp.size ≤ maxLen) (hdn : dn ≤ maxLen) (w : World) (hd : RcRow w D dn ds) :
    Calls Try.prog 51 #[.agg #[.string nm, .string sp, .int .i64 ln, .int .i64 wd, .int .i64 th, .int .i64 cu, .int .i64 mo, .slice D dn dc]] w fun e w' => ∃ (r : Value) (cl : List Iv), e = .returned (.tuple #[r, .int .i64 0]) ∧ IsClear ⟨nm, sp, ln, wd, th, cu, mo, ds⟩ cl ∧ w'.ownsRow w.heap.size 50 2 r cl.length (ivCells cl) ∧ Below w.heap.size w w' := by
  have hBL : Below w.heap.size w (w.alloc (.cells #[.string nm, .string sp, .int .i64 ln, .int .i64 wd, .int .i64 th, .int .i64 cu, .int .i64 mo, .slice D dn dc] 34)) := (Below.refl _ _).alloc (Nat.le_refl _) _
  have hd1 := RcRow.below hd hBL
  have BA := Lib.hid (boardAlone_any (dc := dc) hc hn1 hn2 hdn _ hd1)
  have CL := fun wx hb => Lib.hid (clearOf_any (dc := dc) (bdOk_of hc) wx (RcRow.below hd1 hb))
  clear hc hd hd1
  go_enter Try.func51, Try.ntmps51
  go_wp2_with (first | (go_at_call 88; (refine Calls.mono BA.out ?_); rintro e w1 ⟨rfl, hb1⟩; have hs1 : w.heap.size < w1.heap.size := (by have := hb1.size; (try simp at this); omega); obtain ⟨hc1, hf1⟩ := bcell hb1) | (go_at_call 96; (refine Calls.mono (CL _ hb1).out ?_); rintro e w2 ⟨r, cl, rfl, hcl, hown, hb2⟩))
  go_ret2
  exact ⟨r, cl, rfl, hcl, ⟨hown.1, hown.2.imp id fun ⟨g, cap, cur, h1, h2, h3⟩ => ⟨g, cap, cur, h1, by omega, h3⟩⟩, (hBL.trans (hb1.mono (by simp))).trans (hb2.mono (by omega))⟩
end Go.Proofs.Ytnjbhidncicfiaa
