/- Walks over the fits: the examples of the document (awake). -/
import Derived.Test.YtffmaoalnilkkaaFP
import Derived.Test.YtffmaoalnilkkaaFT
import Derived.KernelRfl
namespace Go.Proofs.Ytffmaoalnilkkaa
open Go.RowKit Go.Maps

abbrev yearB : ByteArray := ⟨#[121, 101, 97, 114]⟩
abbrev yearL : List Sn := [⟨yearB, 60, 120⟩]
abbrev pW (n : Int) : Md := ⟨n, 300, 80, 0, 0, 0⟩
abbrev pO : Md := ⟨38500, 0, 80, 1, 0, 0⟩
abbrev pG (n : Int) : Md := ⟨n, 0, 0, 1, 0, 0⟩
theorem gs3 (x y z : Md) (h : (x.g = 0 ∧ y.g = 1 ∧ z.g = 1) ∨ (x.g = 1 ∧ y.g = 1 ∧ z.g = 0)) : gsOf [x, y, z] = [0, 1] := by
  obtain ⟨x1, x2, x3, x4, x5, x6⟩ := x
  obtain ⟨y1, y2, y3, y4, y5, y6⟩ := y
  obtain ⟨z1, z2, z3, z4, z5, z6⟩ := z
  simp only at h
  rcases h with ⟨rfl, rfl, rfl⟩ | ⟨rfl, rfl, rfl⟩ <;> rfl
theorem ls_in (n d1 : Int) (hn : 0 ≤ n) : leastS [pO, pG d1] [pW n] 60 120 = 38500000000 + 1000000 * d1 - 1012000 * n := by
  unfold leastS
  rw [show ([pO, pG d1] ++ [pW n] : List Md) = [pO, pG d1, pW n] from rfl, gs3 _ _ _ (.inr ⟨rfl, rfl, rfl⟩)]
  simp only [sumL, lowG, share, shO, shI, lowM, hiM, millis]
  simp
  have e1 : (1000000 + 300 * (min 60 280 - min 80 280) : Int) = 994000 := by decide
  have e2 : (1000000 + 300 * (min 120 280 - min 80 280) : Int) = 1012000 := by decide
  rw [e1, e2]
  cases hd : decide (n * 994000 < n * 1012000)
  · have := of_decide_eq_false hd
    simp only [cond_false]; omega
  · have := of_decide_eq_true hd
    simp only [cond_true]; omega
theorem ls_out (n d1 : Int) (hn : 0 ≤ n) : leastS [pW n] [pO, pG d1] 60 120 = 994000 * n - 38500000000 - 1000000 * d1 := by
  unfold leastS
  rw [show ([pW n] ++ [pO, pG d1] : List Md) = [pW n, pO, pG d1] from rfl, gs3 _ _ _ (.inl ⟨rfl, rfl, rfl⟩)]
  simp only [sumL, lowG, share, shO, shI, lowM, hiM, millis]
  simp
  have e1 : (1000000 + 300 * (min 60 280 - min 80 280) : Int) = 994000 := by decide
  have e2 : (1000000 + 300 * (min 120 280 - min 80 280) : Int) = 1012000 := by decide
  rw [e1, e2]
  cases hd : decide (n * 1012000 < n * 994000)
  · have := of_decide_eq_false hd
    simp only [cond_false]; omega
  · have := of_decide_eq_true hd
    simp only [cond_true]; omega

abbrev FL (n : Int) (j : Nat) : FitD := grF (pW 40000) pO 200 50 n j
abbrev FG (n : Int) (j : Nat) : FitD := grF (pW n) pO 200 50 1015 j
theorem kep_little {F : FitD} (l : List Sn) (h : l = yearL) : kepB (-1) F l = !decide (leastS F.o F.i 60 120 < F.le * 1000000) := by
  subst h
  unfold kepB keepsB brkP brkB
  simp
theorem kep_much {F : FitD} (l : List Sn) (h : l = yearL) : kepB 1 F l = !decide (leastS F.i F.o 60 120 < -F.mo * 1000000) := by
  subst h
  unfold kepB keepsB brkP brkB
  simp
theorem kL0 (n : Int) : Kp FL yearL 0 n = decide (1015 ≤ n) := by
  show kepB (-1) _ _ = _
  rw [kep_little _ rfl]
  show (!decide (leastS [pO, pG (2 * n)] [pW 40000] 60 120 < 50 * 1000000)) = _
  rw [ls_in _ _ (by decide), Bool.eq_iff_iff]
  simp; omega
theorem kL1 (n : Int) (h : n ≤ 300000) : Kp FL yearL 1 n = true := by
  show kepB 1 _ _ = _
  rw [kep_much _ rfl]
  show (!decide (leastS [pW 40000] [pO, pG (2 * n)] 60 120 < -600000 * 1000000)) = _
  rw [ls_out _ _ (by decide)]
  simp; omega
theorem kL2 (n : Int) : Kp FL yearL 2 n = decide (n ≤ 1060) := by
  show kepB (-1) _ _ = _
  rw [kep_little _ rfl]
  show (!decide (leastS [pW 40000] [pO, pG n] 60 120 < 200 * 1000000)) = _
  rw [ls_out _ _ (by decide), Bool.eq_iff_iff]
  simp; omega
theorem kL3 (n : Int) (h : 0 ≤ n) : Kp FL yearL 3 n = true := by
  show kepB 1 _ _ = _
  rw [kep_much _ rfl]
  show (!decide (leastS [pO, pG n] [pW 40000] 60 120 < -600000 * 1000000)) = _
  rw [ls_in _ _ (by decide)]
  simp; omega
theorem kG0 (n : Int) (h : 0 ≤ n) : Kp FG yearL 0 n = decide (n ≤ 40000) := by
  show kepB (-1) _ _ = _
  rw [kep_little _ rfl]
  show (!decide (leastS [pO, pG (2 * 1015)] [pW n] 60 120 < 50 * 1000000)) = _
  rw [ls_in _ _ h, Bool.eq_iff_iff]
  simp; omega
theorem kG1 (n : Int) (h : 0 ≤ n) : Kp FG yearL 1 n = true := by
  show kepB 1 _ _ = _
  rw [kep_much _ rfl]
  show (!decide (leastS [pW n] [pO, pG (2 * 1015)] 60 120 < -600000 * 1000000)) = _
  rw [ls_out _ _ h]
  simp; omega
theorem kG2 (n : Int) (h : 0 ≤ n) : Kp FG yearL 2 n = decide (39955 ≤ n) := by
  show kepB (-1) _ _ = _
  rw [kep_little _ rfl]
  show (!decide (leastS [pW n] [pO, pG 1015] 60 120 < 200 * 1000000)) = _
  rw [ls_out _ _ h, Bool.eq_iff_iff]
  simp; omega
theorem kG3 (n : Int) (h : 0 ≤ n) (h' : n ≤ 600000) : Kp FG yearL 3 n = true := by
  show kepB 1 _ _ = _
  rw [kep_much _ rfl]
  show (!decide (leastS [pO, pG 1015] [pW n] 60 120 < -600000 * 1000000)) = _
  rw [ls_in _ _ h]
  simp; omega
theorem lt4 {t : Nat} (h : t < 4) : t = 0 ∨ t = 1 ∨ t = 2 ∨ t = 3 := by omega
theorem all4 {p : Nat → Prop} : (∀ s, s < 4 → p s) ↔ (p 0 ∧ p 1 ∧ p 2 ∧ p 3) :=
  ⟨fun h => ⟨h 0 (by omega), h 1 (by omega), h 2 (by omega), h 3 (by omega)⟩, fun ⟨a, b, c, d⟩ s hs => by rcases lt4 hs with rfl | rfl | rfl | rfl <;> assumption⟩
theorem moL {t : Nat} (ht : t < 4) : Up (Kp FL yearL t) 0 300000 ∨ Dn (Kp FL yearL t) 0 300000 := by
  rcases lt4 ht with rfl | rfl | rfl | rfl
  · exact .inl fun a b h1 h2 h3 h => by rw [kL0] at h ⊢; simp at h ⊢; omega
  · exact .inl fun a b h1 h2 h3 h => kL1 b h3
  · exact .inr fun a b h1 h2 h3 h => by rw [kL2] at h ⊢; simp at h ⊢; omega
  · exact .inl fun a b h1 h2 h3 h => kL3 b (by omega)
theorem moG {t : Nat} (ht : t < 4) : Up (Kp FG yearL t) 0 600000 ∨ Dn (Kp FG yearL t) 0 600000 := by
  rcases lt4 ht with rfl | rfl | rfl | rfl
  · exact .inr fun a b h1 h2 h3 h => by rw [kG0 _ (by omega)] at h ⊢; simp at h ⊢; omega
  · exact .inl fun a b h1 h2 h3 h => kG1 b (by omega)
  · exact .inl fun a b h1 h2 h3 h => by rw [kG2 _ (by omega)] at h ⊢; simp at h ⊢; omega
  · exact .inl fun a b h1 h2 h3 h => kG3 b (by omega) h3
theorem outL {v : Value} (h : HoldsOut FL yearL 0 300000 v) : v = .tuple #[.agg #[.int .i64 1015, .int .i64 1060], .int .i64 0] := by
  have key : ∀ n, 0 ≤ n → n ≤ 300000 → ((∀ s, s < 4 → Kp FL yearL s n = true) ↔ (1015 ≤ n ∧ n ≤ 1060)) := fun n h0 h1 => by
    rw [all4, kL0, kL1 _ h1, kL2, kL3 _ h0]; simp
  rcases h with ⟨a, b, rfl, hr⟩ | ⟨rfl, hno⟩
  · have hab := hr.ab; have l0 := hr.l0; have h1 := hr.h1
    have ha := (hr.iff a).1 ⟨Int.le_refl _, hab⟩
    have hb := (hr.iff b).1 ⟨hab, Int.le_refl _⟩
    have ha' := (key a ha.1 ha.2.1).1 ha.2.2
    have hb' := (key b hb.1 hb.2.1).1 hb.2.2
    have c1 := (hr.iff 1015).2 ⟨by omega, by omega, (key 1015 (by omega) (by omega)).2 (by omega)⟩
    have c2 := (hr.iff 1060).2 ⟨by omega, by omega, (key 1060 (by omega) (by omega)).2 (by omega)⟩
    obtain rfl : a = 1015 := by omega
    obtain rfl : b = 1060 := by omega
    rfl
  · exact absurd ((key 1015 (by omega) (by omega)).2 (by omega)) (hno 1015 (by omega) (by omega))
theorem outG {v : Value} (h : HoldsOut FG yearL 0 600000 v) : v = .tuple #[.agg #[.int .i64 39955, .int .i64 40000], .int .i64 0] := by
  have key : ∀ n, 0 ≤ n → n ≤ 600000 → ((∀ s, s < 4 → Kp FG yearL s n = true) ↔ (39955 ≤ n ∧ n ≤ 40000)) := fun n h0 h1 => by
    rw [all4, kG0 _ h0, kG1 _ h0, kG2 _ h0, kG3 _ h0 h1]; simp; omega
  rcases h with ⟨a, b, rfl, hr⟩ | ⟨rfl, hno⟩
  · have hab := hr.ab; have l0 := hr.l0; have h1 := hr.h1
    have ha := (hr.iff a).1 ⟨Int.le_refl _, hab⟩
    have hb := (hr.iff b).1 ⟨hab, Int.le_refl _⟩
    have ha' := (key a ha.1 ha.2.1).1 ha.2.2
    have hb' := (key b hb.1 hb.2.1).1 hb.2.2
    have c1 := (hr.iff 39955).2 ⟨by omega, by omega, (key 39955 (by omega) (by omega)).2 (by omega)⟩
    have c2 := (hr.iff 40000).2 ⟨by omega, by omega, (key 40000 (by omega) (by omega)).2 (by omega)⟩
    obtain rfl : a = 39955 := by omega
    obtain rfl : b = 40000 := by omega
    rfl
  · exact absurd ((key 40000 (by omega) (by omega)).2 (by omega)) (hno 40000 (by omega) (by omega))
theorem okO : MdOk pO := ⟨by decide, by decide, by decide, by decide, by decide, by decide, by decide, by decide, by decide, by decide, by decide, by decide⟩
theorem okW {n : Int} (h : 0 ≤ n) (h' : n ≤ 600000) : MdOk (pW n) := ⟨h, h', by simp, by simp, by simp, by simp, by simp, by simp, by simp, h, by simp, by show (0 : Int) ≤ 600000 - n; omega⟩
theorem okG {n : Int} (h : 0 ≤ n) (h' : n ≤ 600000) : MdOk (pG n) := ⟨h, h', by simp, by simp, by simp, by simp, by simp, by simp, by simp, h, by simp, by show (0 : Int) ≤ 600000 - n; omega⟩
theorem okFL {n : Int} (j : Nat) (h : 0 ≤ n) (h' : n ≤ 300000) : FdOk (FL n j) := by
  match j with
  | 0 => exact ⟨fun x hx => by simp [FL, grF] at hx; rcases hx with rfl | rfl; exact okO; exact okG (by omega) (by omega), fun x hx => by simp [FL, grF] at hx; subst hx; exact okW (by decide) (by decide), by simp [grF], by simp [grF], by simp [grF]⟩
  | _ + 1 => exact ⟨fun x hx => by simp [FL, grF] at hx; subst hx; exact okW (by decide) (by decide), fun x hx => by simp [FL, grF] at hx; rcases hx with rfl | rfl; exact okO; exact okG (by omega) (by omega), by simp [grF], by simp [grF], by simp [grF]⟩
theorem okFG {n : Int} (j : Nat) (h : 0 ≤ n) (h' : n ≤ 600000) : FdOk (FG n j) := by
  match j with
  | 0 => exact ⟨fun x hx => by simp [FG, grF] at hx; rcases hx with rfl | rfl; exact okO; exact okG (by decide) (by decide), fun x hx => by simp [FG, grF] at hx; subst hx; exact okW h h', by simp [grF], by simp [grF], by simp [grF]⟩
  | _ + 1 => exact ⟨fun x hx => by simp [FG, grF] at hx; subst hx; exact okW h h', fun x hx => by simp [FG, grF] at hx; rcases hx with rfl | rfl; exact okO; exact okG (by decide) (by decide), by simp [grF], by simp [grF], by simp [grF]⟩
theorem yearOk : snsCode yearL = 0 := by decide +kernel
theorem slotY : slotS ⟨20000, 300, 80, 0, 0, 0⟩ 500 yearL = 860 := by decide +kernel
end Go.Proofs.Ytffmaoalnilkkaa
