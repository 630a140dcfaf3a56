/- Mathematics of the reference's corners: moistures by groups. -/
import Derived.Test.YtffmaoalnilkkaaFA
namespace Go.Proofs.Ytffmaoalnilkkaa

def atM : List Int → List Int → Int → Int
  | g :: gs, m :: ms, x => bif decide (g = x) then m else atM gs ms x
  | _, _, _ => 0
def zipS (f : Int → Int → Int) : List Int → List Int → Int
  | g :: gs, m :: ms => f g m + zipS f gs ms
  | _, _ => 0
theorem zipS_zero : ∀ (gs ms : List Int), zipS (fun _ _ => 0) gs ms = 0
  | [], _ => by unfold zipS; rfl
  | _ :: _, [] => by unfold zipS; rfl
  | g :: gs, m :: ms => by unfold zipS; rw [zipS_zero gs ms]; rfl
theorem zipS_add (f f' : Int → Int → Int) : ∀ (gs ms : List Int), zipS (fun g m => f g m + f' g m) gs ms = zipS f gs ms + zipS f' gs ms
  | [], _ => by unfold zipS; rfl
  | _ :: _, [] => by unfold zipS; rfl
  | g :: gs, m :: ms => by
    have := zipS_add f f' gs ms
    show f g m + f' g m + zipS _ gs ms = (f g m + zipS f gs ms) + (f' g m + zipS f' gs ms)
    omega
theorem zipS_sub (f f' : Int → Int → Int) : ∀ (gs ms : List Int), zipS (fun g m => f g m - f' g m) gs ms = zipS f gs ms - zipS f' gs ms
  | [], _ => by unfold zipS; rfl
  | _ :: _, [] => by unfold zipS; rfl
  | g :: gs, m :: ms => by
    have := zipS_sub f f' gs ms
    show f g m - f' g m + zipS _ gs ms = (f g m + zipS f gs ms) - (f' g m + zipS f' gs ms)
    omega
theorem zipS_append (f : Int → Int → Int) : ∀ (a a' b b' : List Int), a.length = a'.length → zipS f (a ++ b) (a' ++ b') = zipS f a a' + zipS f b b'
  | [], [], b, b', _ => by show zipS f b b' = zipS f [] [] + _; unfold zipS; simp
  | [], _ :: _, _, _, h => by simp at h
  | _ :: _, [], _, _, h => by simp at h
  | g :: a, m :: a', b, b', h => by
    have := zipS_append f a a' b b' (by simpa using h)
    show f g m + zipS f (a ++ b) (a' ++ b') = (f g m + zipS f a a') + zipS f b b'
    omega
theorem zipS_map (f : Int → Int → Int) (p : Int → Int) : ∀ (gs : List Int), zipS f gs (gs.map p) = sumL (fun g => f g (p g)) gs
  | [] => by unfold zipS; rfl
  | g :: gs => by
    have := zipS_map f p gs
    show f g (p g) + zipS f gs (gs.map p) = f g (p g) + sumL _ gs
    omega
theorem zipS_none {x : Int} (F : Int → Int) : ∀ {gs ms : List Int}, x ∉ gs → zipS (fun g m => bif decide (x = g) then F m else 0) gs ms = 0
  | [], _, _ => by unfold zipS; rfl
  | _ :: _, [], _ => by unfold zipS; rfl
  | g :: gs, m :: ms, h => by
    have h1 : ¬ x = g := fun e => h (by simp [e])
    have := zipS_none F (gs := gs) (ms := ms) (fun e => h (List.mem_cons_of_mem _ e))
    show (bif decide (x = g) then F m else 0) + zipS (fun g m => bif decide (x = g) then F m else 0) gs ms = 0
    rw [this, decide_eq_false h1]; rfl
theorem zipS_at {x : Int} (F : Int → Int) : ∀ {gs ms : List Int}, gs.Nodup → ms.length = gs.length → x ∈ gs → zipS (fun g m => bif decide (x = g) then F m else 0) gs ms = F (atM gs ms x)
  | [], _, _, _, h => by simp at h
  | _ :: _, [], _, hl, _ => by simp at hl
  | g :: gs, m :: ms, hn, hl, h => by
    obtain ⟨n1, n2⟩ := List.nodup_cons.1 hn
    show (bif decide (x = g) then F m else 0) + zipS _ gs ms = F (bif decide (g = x) then m else atM gs ms x)
    by_cases e : x = g
    · subst e
      rw [zipS_none F n1]; simp
    · rw [decide_eq_false e, decide_eq_false (fun e' => e e'.symm), zipS_at F n2 (by simpa using hl) (by rcases List.mem_cons.1 h with e' | e'; exact absurd e' e; exact e')]
      simp
theorem sum_at (F : Md → Int → Int) {gs ms : List Int} (hn : gs.Nodup) (hl : ms.length = gs.length) : ∀ {l : List Md}, (∀ x ∈ l, x.g ∈ gs) → sumL (fun x => F x (atM gs ms x.g)) l = zipS (fun g m => sumL (fun x => bif decide (x.g = g) then F x m else 0) l) gs ms
  | [], _ => by rw [show (fun (g m : Int) => sumL (fun x => bif decide (x.g = g) then F x m else 0) []) = fun _ _ => (0 : Int) from rfl, zipS_zero]; rfl
  | x :: l, h => by
    have ih := sum_at F hn hl (l := l) (fun y hy => h y (by simp [hy]))
    show F x (atM gs ms x.g) + sumL _ l = zipS (fun g m => (bif decide (x.g = g) then F x m else 0) + sumL _ l) gs ms
    rw [zipS_add (fun g m => bif decide (x.g = g) then F x m else 0), zipS_at (F x) hn hl (h x (by simp)), ih]
/-- The least clearance at moistures of the groups. -/
def vL (o i : List Md) (gs ms : List Int) : Int := sumL (fun x => lowM x (atM gs ms x.g)) o - sumL (fun x => hiM x (atM gs ms x.g)) i
theorem vL_zip {o i : List Md} {gs ms : List Int} (hn : gs.Nodup) (hl : ms.length = gs.length) (ho : ∀ x ∈ o, x.g ∈ gs) (hi : ∀ x ∈ i, x.g ∈ gs) : vL o i gs ms = zipS (fun g m => share m o i g) gs ms := by
  unfold vL
  rw [sum_at lowM hn hl ho, sum_at hiM hn hl hi, ← zipS_sub]
  rfl
/-- What is chosen for a group. -/
def pickM (o i : List Md) (lo hi g : Int) : Int := bif decide (share hi o i g < share lo o i g) then hi else lo
def cornK (o i : List Md) (lo hi : Int) (gs : List Int) (k : Nat) : List Int := (gs.take k).map (pickM o i lo hi) ++ (gs.drop k).map (fun _ => lo)
def cornH (o i : List Md) (lo hi : Int) (gs : List Int) (k : Nat) : List Int := (gs.take k).map (pickM o i lo hi) ++ hi :: (gs.drop (k + 1)).map (fun _ => lo)
theorem cornK_len (o i : List Md) (lo hi : Int) (gs : List Int) (k : Nat) : (cornK o i lo hi gs k).length = gs.length := by
  unfold cornK; rw [List.length_append, List.length_map, List.length_map, ← List.length_append, List.take_append_drop]
theorem cornK_zero (o i : List Md) (lo hi : Int) (gs : List Int) : cornK o i lo hi gs 0 = gs.map (fun _ => lo) := by unfold cornK; simp
theorem cornK_end (o i : List Md) (lo hi : Int) {gs : List Int} {k : Nat} (h : gs.length ≤ k) : cornK o i lo hi gs k = gs.map (pickM o i lo hi) := by
  unfold cornK; rw [List.take_of_length_le h, List.drop_eq_nil_iff.2 h]; simp
theorem cornK_split (o i : List Md) (lo hi : Int) {gs : List Int} {k : Nat} (h : k < gs.length) : cornK o i lo hi gs k = (gs.take k).map (pickM o i lo hi) ++ lo :: (gs.drop (k + 1)).map (fun _ => lo) := by
  unfold cornK; rw [List.drop_eq_getElem_cons h]; rfl
theorem cornH_set (o i : List Md) (lo hi : Int) {gs : List Int} {k : Nat} (h : k < gs.length) : (cornK o i lo hi gs k).set k hi = cornH o i lo hi gs k := by
  rw [cornK_split o i lo hi h]
  unfold cornH
  have hl : ((gs.take k).map (pickM o i lo hi)).length = k := by rw [List.length_map, List.length_take]; omega
  rw [List.set_append_right _ _ (by omega), hl, Nat.sub_self]; rfl
theorem corn_next (o i : List Md) (lo hi : Int) {gs : List Int} {k : Nat} (h : k < gs.length) : cornK o i lo hi gs (k + 1) = bif decide (share hi o i gs[k] < share lo o i gs[k]) then cornH o i lo hi gs k else cornK o i lo hi gs k := by
  rw [cornK_split o i lo hi h]
  unfold cornK cornH
  rw [List.take_succ_eq_append_getElem h, List.map_append, List.append_assoc]
  show _ ++ (pickM o i lo hi gs[k] :: _) = _
  unfold pickM
  cases decide (share hi o i gs[k] < share lo o i gs[k]) <;> rfl
theorem corn_less {o i : List Md} {lo hi : Int} {gs : List Int} {k : Nat} (h : k < gs.length) (hn : gs.Nodup) (ho : ∀ x ∈ o, x.g ∈ gs) (hi' : ∀ x ∈ i, x.g ∈ gs) : (vL o i gs (cornH o i lo hi gs k) < vL o i gs (cornK o i lo hi gs k)) ↔ share hi o i gs[k] < share lo o i gs[k] := by
  have hl1 := cornK_len o i lo hi gs k
  have hl2 : (cornH o i lo hi gs k).length = gs.length := by rw [← cornH_set o i lo hi h, List.length_set, hl1]
  rw [vL_zip hn hl1 ho hi', vL_zip hn hl2 ho hi', cornK_split o i lo hi h]
  unfold cornH
  have e : gs = gs.take k ++ gs[k] :: gs.drop (k + 1) := by rw [← List.drop_eq_getElem_cons h, List.take_append_drop]
  have hl : (gs.take k).length = ((gs.take k).map (pickM o i lo hi)).length := by rw [List.length_map]
  generalize hT : (gs.take k).map (pickM o i lo hi) = T at hl
  generalize hU : (gs.drop (k + 1)).map (fun _ => lo) = U
  have A := fun m => zipS_append (fun g m => share m o i g) (gs.take k) T (gs[k] :: gs.drop (k + 1)) (m :: U) hl
  rw [← e] at A
  rw [A hi, A lo]
  show zipS _ _ _ + (share hi o i gs[k] + zipS _ _ _) < zipS _ _ _ + (share lo o i gs[k] + zipS _ _ _) ↔ _
  omega
theorem gsOf_comm (a b : List Md) : gsOf (a ++ b) = gsOf (b ++ a) := by
  unfold gsOf
  congr 1
  funext g
  unfold hasG
  rw [List.any_append, List.any_append, Bool.or_comm]
theorem moistS_pick (o i : List Md) (lo hi : Int) : moistS o i lo hi = (gsOf (o ++ i)).map (pickM o i lo hi) := rfl
theorem leastS_vL {o i : List Md} {lo hi : Int} (hn : (gsOf (o ++ i)).Nodup) (ho : ∀ x ∈ o, x.g ∈ gsOf (o ++ i)) (hi' : ∀ x ∈ i, x.g ∈ gsOf (o ++ i)) : vL o i (gsOf (o ++ i)) (moistS o i lo hi) = leastS o i lo hi := by
  rw [vL_zip hn (by rw [moistS_pick, List.length_map]) ho hi', moistS_pick, zipS_map]
  unfold leastS
  refine sumL_congr fun g _ => ?_
  unfold pickM lowG
  cases decide (share hi o i g < share lo o i g) <;> rfl
theorem atM_mem : ∀ {gs ms : List Int} {x : Int}, atM gs ms x = 0 ∨ atM gs ms x ∈ ms
  | [], _, _ => by left; unfold atM; rfl
  | _ :: _, [], _ => by left; unfold atM; rfl
  | g :: gs, m :: ms, x => by
    show (bif decide (g = x) then m else atM gs ms x) = 0 ∨ (bif decide (g = x) then m else atM gs ms x) ∈ m :: ms
    cases decide (g = x)
    · rcases atM_mem (gs := gs) (ms := ms) (x := x) with h | h
      · left; exact h
      · right; exact List.mem_cons_of_mem _ h
    · right; simp
end Go.Proofs.Ytffmaoalnilkkaa
