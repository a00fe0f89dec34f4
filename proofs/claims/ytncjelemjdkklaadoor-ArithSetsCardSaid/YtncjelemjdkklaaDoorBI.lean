/- What ArithSkips' texts are worth. -/
import Derived.Test.YtncjelemjdkklaaDoorBH
import Derived.Test.YtncjelemjdkklaaDoorBD
namespace Go.Proofs.YtncjelemjdkklaaDoor
open Go.RowKit
set_option linter.unusedVariables false
set_option linter.unusedSimpArgs false
theorem tt_nil : TT [] := fun t h => by cases h
theorem tt_one : TT [[41]] := fun t h => by cases h; rfl
theorem toks_br {s : Bs} {ts : List Bs} (h : toks s = some ts) : toks (40 :: (s ++ [41])) = some ([40] :: (ts ++ [[41]])) := by
  rw [toks_open, toks_stop (.inr rfl) [] s, h, show toks [41] = some [[41]] from by decide +kernel]
  rfl
theorem toks_pre (p : Bs) (tp : List Bs) (hp : toks p = some tp) {s : Bs} {ts : List Bs} (h : toks s = some ts) : toks (p ++ 32 :: 40 :: (s ++ [41])) = some (tp ++ [40] :: (ts ++ [[41]])) := by
  rw [toks_stop (.inl rfl) _ p, hp, toks_blank, toks_br h]
  rfl
theorem skip_main {n : Nd} {ts : List Bs} {f f0 : Nat} (h : pP f .asg 0 ts = some (n, [])) (hf : f ≤ f0) (o : Nat) : pP f0 .asg o (ts ++ [[41]]) = none ∨ pP f0 .asg o (ts ++ [[41]]) = some (n, [[41]]) := by
  cases hq : pP f0 .asg o (ts ++ [[41]]) with
  | none => exact .inl rfl
  | some x =>
    have e0 := pP_ext [] tt_nil f0 f0 .asg o 0 _ x.1 x.2 hq (Nat.le_refl _) (Nat.zero_le _)
    have e1 := pP_ext [[41]] tt_one f f0 .asg 0 0 ts n [] h hf (Nat.le_refl _)
    rw [List.append_nil, e1, List.append_nil] at e0
    right
    rw [show x = (x.1, x.2) from rfl]
    exact e0.symm
theorem lv (k : Nat) (h : k < 9) : opK k = .lev (k + 1) := by unfold opK; rw [if_neg (by omega)]
theorem lv9 : opK 9 = .un := rfl
theorem un_num (f o : Nat) (t : Bs) (r : List Bs) (h : o ≤ 24) (hp : preL.contains t = false) (h4 : t ≠ [40]) (hc : isC t = true) (n : Int) (hn : cstV t = n) : pP (f + 1) .un o (t :: r) = some (.num n, r) := by
  rw [← hn, pP_un, if_neg (by omega), if_neg (by rw [hp]; simp), if_neg h4, if_pos hc]
theorem un_br (f o : Nat) (r : List Bs) (h : o ≤ 24) : pP (f + 1) .un o ([40] :: r) = match pP f .asg (o + 1) r with
        | none => none
        | some (x, r2) => if r2.head? = some [41] then some (x, r2.tail) else none := by
  rw [pP_un, if_neg (by omega), if_neg (by decide), if_pos rfl]
  rfl
/-- down the levels to the operand, and up again with no sign of theirs. -/
theorem levs_stay (f o : Nat) (ts r : List Bs) (n : Nd) (k : Nat) : ∀ j, j + k = 9 → (∀ i, k ≤ i → i ≤ 9 → ∀ t q, r = t :: q → (lev i).contains t = false) → pP (f + 1) .un o ts = some (n, r) → pP (f + 2 + j) (.lev k) o ts = some (n, r) := by
  intro j
  induction j generalizing k with
  | zero =>
    intro hk hr h
    obtain rfl : k = 9 := by omega
    rw [show f + 2 + 0 = (f + 1) + 1 from rfl, pP_lev, lv9, h]
    dsimp only
    cases r with
    | nil => rw [pP_more0]
    | cons t q => rw [pP_more, hr 9 (by omega) (by omega) t q rfl]; rfl
  | succ j ih =>
    intro hk hr h
    have h1 := ih (k + 1) (by omega) (fun i hi hi9 => hr i (by omega) hi9) h
    rw [show f + 2 + (j + 1) = (f + 1 + j + 1) + 1 by omega, pP_lev, lv k (by omega), show f + 1 + j + 1 = f + 2 + j by omega, h1]
    dsimp only
    rw [show f + 2 + j = (f + 1 + j) + 1 by omega]
    cases r with
    | nil => rw [pP_more0]
    | cons t q => rw [pP_more, hr k (by omega) (by omega) t q rfl]; rfl
theorem levs_none (f o : Nat) (ts : List Bs) (k : Nat) : ∀ j, j + k = 9 → pP (f + 1) .un o ts = none → pP (f + 2 + j) (.lev k) o ts = none := by
  intro j
  induction j generalizing k with
  | zero =>
    intro hk h
    obtain rfl : k = 9 := by omega
    rw [show f + 2 + 0 = (f + 1) + 1 from rfl, pP_lev, lv9, h]
  | succ j ih =>
    intro hk h
    rw [show f + 2 + (j + 1) = (f + 1 + j + 1) + 1 by omega, pP_lev, lv k (by omega), show f + 1 + j + 1 = f + 2 + j by omega, ih (k + 1) (by omega) h]
theorem kept_of (l : List Bs) (t : Bs) (k : Nat) (h : ((List.range 10).all fun i => decide (i < k) || !(lev i).contains t) = true) : ∀ i, k ≤ i → i ≤ 9 → (lev i).contains t = false := by
  intro i h1 h2
  have := List.all_eq_true.1 h i (by simp; omega)
  simp only [Bool.or_eq_true, decide_eq_true_eq, Bool.not_eq_true'] at this
  rcases this with h | h
  · omega
  · exact h
theorem asg_cho (f o : Nat) (a : Bs) (ts : List Bs) (h : o ≤ 24) (ha : isN a = false) : pP (f + 1) .asg o (a :: ts) = pP f .cho (o + 1) (a :: ts) := by
  rw [pP_asgc (by intro x y r e; cases e; rw [ha]; rfl), if_neg (by omega)]
def brR (x : Option (Nd × List Bs)) : Option (Nd × List Bs) := match x with
  | none => none
  | some (n, r2) => if r2.head? = some [41] then some (n, r2.tail) else none
theorem un_br2 (f o : Nat) (r : List Bs) (h : o ≤ 24) : pP (f + 1) .un o ([40] :: r) = brR (pP f .asg (o + 1) r) := (un_br f o r h).trans rfl
/-- a first operand, a sign of level 1, then a bracket: "x && (..)". -/
theorem and_form (f : Nat) (X : List Bs) (y : Option Nd) (hy : brR (pP f .asg 3 X) = y.map fun n => (n, [])) :
    pP (f + 14) .asg 0 ([48] :: [38, 38] :: [40] :: X) = y.map fun z => (.bin [38, 38] (.num 0) z, []) := by
  have hu1 : pP (f + 1 + 1) .un 2 ([48] :: [38, 38] :: [40] :: X) = some (.num 0, [38, 38] :: [40] :: X) := un_num (f + 1) 2 [48] _ (by omega) (by decide) (by decide) (by decide) _ (by decide +kernel)
  have h2 := levs_stay (f + 1) 2 _ _ _ 2 7 rfl (fun i h1 h2 t q e => by cases e; exact kept_of [] _ 2 (by decide) i h1 h2) hu1
  have hu2 : pP (f + 1) .un 2 ([40] :: X) = y.map fun n => (n, []) := by rw [un_br2 _ _ _ (by omega), hy]
  rw [asg_cho _ _ _ _ (by omega) (by decide), pP_cho, if_neg (by omega), pP_lev, lv 0 (by omega), pP_lev, lv 1 (by omega)]
  rw [show f + 10 = f + 1 + 2 + 7 by omega, h2]
  dsimp only
  rw [show f + 1 + 2 + 7 = (f + 9) + 1 by omega, pP_more, if_pos (by decide), lv 1 (by omega)]
  cases y with
  | none =>
    rw [show f + 9 = f + 2 + 7 by omega, levs_none f 2 _ 2 7 rfl hu2]
    rfl
  | some n =>
    rw [show f + 9 = f + 2 + 7 by omega, levs_stay f 2 _ [] n 2 7 rfl (fun i h1 h2 t q e => by cases e) hu2]
    rfl
/-- a first operand, a sign of level 0, then a bracket: "x || (..)". -/
theorem or_form (f : Nat) (X : List Bs) (y : Option Nd) (hy : brR (pP f .asg 3 X) = y.map fun n => (n, [])) :
    pP (f + 14) .asg 0 ([55] :: [124, 124] :: [40] :: X) = y.map fun z => (.bin [124, 124] (.num 7) z, []) := by
  have hu1 : pP (f + 1 + 1) .un 2 ([55] :: [124, 124] :: [40] :: X) = some (.num 7, [124, 124] :: [40] :: X) := un_num (f + 1) 2 [55] _ (by omega) (by decide) (by decide) (by decide) _ (by decide +kernel)
  have h2 := levs_stay (f + 1) 2 _ _ _ 1 8 rfl (fun i h1 h2 t q e => by cases e; exact kept_of [] _ 1 (by decide) i h1 h2) hu1
  have hu2 : pP (f + 1) .un 2 ([40] :: X) = y.map fun n => (n, []) := by rw [un_br2 _ _ _ (by omega), hy]
  rw [asg_cho _ _ _ _ (by omega) (by decide), pP_cho, if_neg (by omega), pP_lev, lv 0 (by omega)]
  rw [show f + 11 = f + 1 + 2 + 8 by omega, h2]
  dsimp only
  rw [show f + 1 + 2 + 8 = (f + 10) + 1 by omega, pP_more, if_pos (by decide), lv 0 (by omega)]
  cases y with
  | none =>
    rw [show f + 10 = f + 2 + 8 by omega, levs_none f 2 _ 1 8 rfl hu2]
    rfl
  | some n =>
    rw [show f + 10 = f + 2 + 8 by omega, levs_stay f 2 _ [] n 1 8 rfl (fun i h1 h2 t q e => by cases e) hu2]
    rfl
/-- a choice whose last is a bracket: "x ? y : (..)". -/
theorem cho_form (g : Nat) (X : List Bs) (y : Option Nd) (hy : brR (pP (g + 1) .asg 4 X) = y.map fun n => (n, [])) :
    pP (g + 15) .asg 0 ([49] :: [63] :: [53] :: [58] :: [40] :: X) = y.map fun z => (.cho (.num 1) (.num 5) z, []) := by
  have hu1 : pP (g + 2 + 1) .un 2 ([49] :: [63] :: [53] :: [58] :: [40] :: X) = some (.num 1, [63] :: [53] :: [58] :: [40] :: X) := un_num (g + 2) 2 [49] _ (by omega) (by decide) (by decide) (by decide) _ (by decide +kernel)
  have h1 := levs_stay (g + 2) 2 _ _ _ 0 9 rfl (fun i h1 h2 t q e => by cases e; exact kept_of [] _ 0 (by decide) i h1 h2) hu1
  have hu5 : pP (g + 1) .un 4 ([53] :: [58] :: [40] :: X) = some (.num 5, [58] :: [40] :: X) := un_num g 4 [53] _ (by omega) (by decide) (by decide) (by decide) _ (by decide +kernel)
  have h5 := levs_stay g 4 _ _ _ 0 9 rfl (fun i h1 h2 t q e => by cases e; exact kept_of [] _ 0 (by decide) i h1 h2) hu5
  have h6 : pP (g + 13) .asg 2 ([53] :: [58] :: [40] :: X) = some (.num 5, [58] :: [40] :: X) := by
    rw [asg_cho _ _ _ _ (by omega) (by decide), pP_cho, if_neg (by omega)]
    rw [show g + 11 = g + 2 + 9 by omega, h5]
    dsimp only
    rw [List.head?_cons, if_neg (by decide)]
  have hu2 : pP (g + 1 + 1) .un 3 ([40] :: X) = y.map fun n => (n, []) := by rw [un_br2 _ _ _ (by omega), hy]
  have h7 : pP (g + 13) .cho 2 ([40] :: X) = y.map fun n => (n, []) := by
    rw [pP_cho, if_neg (by omega), show g + 12 = g + 1 + 2 + 9 by omega]
    cases y with
    | none => rw [levs_none (g + 1) 3 _ 0 9 rfl hu2]; rfl
    | some n => rw [levs_stay (g + 1) 3 _ [] n 0 9 rfl (fun i h1 h2 t q e => by cases e) hu2]; rfl
  rw [asg_cho _ _ _ _ (by omega) (by decide), pP_cho, if_neg (by omega)]
  rw [show g + 13 = g + 2 + 2 + 9 by omega, h1]
  dsimp only
  rw [List.head?_cons, if_pos rfl, List.tail_cons, show g + 2 + 2 + 9 = g + 13 by omega, h6]
  dsimp only
  rw [List.head?_cons, if_pos rfl, List.tail_cons, h7]
  cases y <;> rfl
/-- what brackets around a text that is one make of it. -/
theorem br_two {n : Nd} {ts : List Bs} {f f0 : Nat} (h : pP f .asg 0 ts = some (n, [])) (hf : f ≤ f0) (o : Nat) : ∃ y, (y = none ∨ y = some n) ∧ brR (pP f0 .asg o (ts ++ [[41]])) = y.map fun n => (n, []) := by
  rcases skip_main h hf o with e | e
  · exact ⟨none, .inl rfl, by rw [e]; rfl⟩
  · exact ⟨some n, .inr rfl, by rw [e]; rfl⟩
theorem parsed_at {s : Bs} {ts : List Bs} (h : toks s = some ts) (hne : ts ≠ []) {y : Option Nd} {t : Nd → Nd} (hp : pP (20 * ts.length + 15) .asg 0 ts = y.map fun z => (t z, [])) : parsed s = none ∨ ∃ z, y = some z ∧ parsed s = some (t z) := by
  unfold parsed
  split
  · exact .inl rfl
  · rw [h]
    dsimp only
    rw [if_neg hne, hp]
    cases y with
    | none => exact .inl rfl
    | some z => exact .inr ⟨z, rfl, rfl⟩
theorem parsed_in {s : Bs} {n : Nd} (h : parsed s = some n) : ∃ ts, toks s = some ts ∧ (ts = [] ∨ pP (20 * ts.length + 15) .asg 0 ts = some (n, [])) := by
  unfold parsed at h
  split at h
  · cases h
  · cases ht : toks s with
    | none => rw [ht] at h; cases h
    | some ts =>
      rw [ht] at h
      dsimp only at h
      refine ⟨ts, rfl, ?_⟩
      by_cases he : ts = []
      · exact .inl he
      · rw [if_neg he] at h
        right
        split at h
        · cases h
        · rename_i m r hm
          split at h
          · rename_i hr
            cases h
            rw [hm, hr]
          · cases h
theorem form_and {s : Bs} {n : Nd} (h : parsed s = some n) : parsed ([48, 32, 38, 38] ++ 32 :: 40 :: (s ++ [41])) = none ∨ ∃ z, parsed ([48, 32, 38, 38] ++ 32 :: 40 :: (s ++ [41])) = some (.bin [38, 38] (.num 0) z) := by
  obtain ⟨ts, ht, hc⟩ := parsed_in h
  have hk := toks_pre [48, 32, 38, 38] [[48], [38, 38]] (by decide +kernel) ht
  have hy : ∃ y, brR (pP (20 * ts.length + 81) .asg 3 (ts ++ [[41]])) = Option.map (fun n : Nd => (n, ([] : List Bs))) y := by
    rcases hc with rfl | hc
    · exact ⟨none, by show brR (pP 81 .asg 3 [[41]]) = none; decide +kernel⟩
    · obtain ⟨y, -, h⟩ := br_two hc (by omega : 20 * ts.length + 15 ≤ 20 * ts.length + 81) 3
      exact ⟨y, h⟩
  obtain ⟨y, hy⟩ := hy
  rcases parsed_at hk (by simp) (y := y) (t := fun z => .bin [38, 38] (.num 0) z) (by
    have hL : 20 * ([[48], [38, 38]] ++ [40] :: (ts ++ [[41]])).length + 15 = (20 * ts.length + 81) + 14 := by simp only [List.length_append, List.length_cons, List.length_nil]; omega
    rw [hL]
    exact and_form (20 * ts.length + 81) (ts ++ [[41]]) y hy) with e | ⟨z, -, e⟩
  · exact .inl e
  · exact .inr ⟨z, e⟩
theorem form_or {s : Bs} {n : Nd} (h : parsed s = some n) : parsed ([55, 32, 124, 124] ++ 32 :: 40 :: (s ++ [41])) = none ∨ ∃ z, parsed ([55, 32, 124, 124] ++ 32 :: 40 :: (s ++ [41])) = some (.bin [124, 124] (.num 7) z) := by
  obtain ⟨ts, ht, hc⟩ := parsed_in h
  have hk := toks_pre [55, 32, 124, 124] [[55], [124, 124]] (by decide +kernel) ht
  have hy : ∃ y, brR (pP (20 * ts.length + 81) .asg 3 (ts ++ [[41]])) = Option.map (fun n : Nd => (n, ([] : List Bs))) y := by
    rcases hc with rfl | hc
    · exact ⟨none, by show brR (pP 81 .asg 3 [[41]]) = none; decide +kernel⟩
    · obtain ⟨y, -, h⟩ := br_two hc (by omega : 20 * ts.length + 15 ≤ 20 * ts.length + 81) 3
      exact ⟨y, h⟩
  obtain ⟨y, hy⟩ := hy
  rcases parsed_at hk (by simp) (y := y) (t := fun z => .bin [124, 124] (.num 7) z) (by
    have hL : 20 * ([[55], [124, 124]] ++ [40] :: (ts ++ [[41]])).length + 15 = (20 * ts.length + 81) + 14 := by simp only [List.length_append, List.length_cons, List.length_nil]; omega
    rw [hL]
    exact or_form (20 * ts.length + 81) (ts ++ [[41]]) y hy) with e | ⟨z, -, e⟩
  · exact .inl e
  · exact .inr ⟨z, e⟩
theorem form_cho {s : Bs} {n : Nd} (h : parsed s = some n) : parsed ([49, 32, 63, 32, 53, 32, 58] ++ 32 :: 40 :: (s ++ [41])) = none ∨ ∃ z, parsed ([49, 32, 63, 32, 53, 32, 58] ++ 32 :: 40 :: (s ++ [41])) = some (.cho (.num 1) (.num 5) z) := by
  obtain ⟨ts, ht, hc⟩ := parsed_in h
  have hk := toks_pre [49, 32, 63, 32, 53, 32, 58] [[49], [63], [53], [58]] (by decide +kernel) ht
  have hy : ∃ y, brR (pP (20 * ts.length + 120 + 1) .asg 4 (ts ++ [[41]])) = Option.map (fun n : Nd => (n, ([] : List Bs))) y := by
    rcases hc with rfl | hc
    · exact ⟨none, by show brR (pP 121 .asg 4 [[41]]) = none; decide +kernel⟩
    · obtain ⟨y, -, h⟩ := br_two hc (by omega : 20 * ts.length + 15 ≤ 20 * ts.length + 120 + 1) 4
      exact ⟨y, h⟩
  obtain ⟨y, hy⟩ := hy
  rcases parsed_at hk (by simp) (y := y) (t := fun z => .cho (.num 1) (.num 5) z) (by
    have hL : 20 * ([[49], [63], [53], [58]] ++ [40] :: (ts ++ [[41]])).length + 15 = (20 * ts.length + 120) + 15 := by simp only [List.length_append, List.length_cons, List.length_nil]; omega
    rw [hL]
    exact cho_form (20 * ts.length + 120) (ts ++ [[41]]) y hy) with e | ⟨z, -, e⟩
  · exact .inl e
  · exact .inr ⟨z, e⟩
theorem val_form {s : Bs} {t : Nd → Nd} {v : Int} (h : parsed s = none ∨ ∃ z, parsed s = some (t z)) (hv : ∀ z, ev [] (t z) [] = ((v, 0), [])) : valP [] s = (0, 17, []) ∨ valP [] s = (v, 0, []) := by
  rcases h with h | ⟨z, h⟩
  · left; unfold valP; rw [h]
  · right
    rw [valP_of _ _ _ h _ _ _ (hv z)]; rfl
/-- what the three texts are worth. -/
theorem skip_vals {s : Bs} (h : (valP [] s).2.1 ≠ 17) :
    (valP [] ([48, 32, 38, 38] ++ 32 :: 40 :: (s ++ [41])) = (0, 17, []) ∨ valP [] ([48, 32, 38, 38] ++ 32 :: 40 :: (s ++ [41])) = (0, 0, [])) ∧
    (valP [] ([55, 32, 124, 124] ++ 32 :: 40 :: (s ++ [41])) = (0, 17, []) ∨ valP [] ([55, 32, 124, 124] ++ 32 :: 40 :: (s ++ [41])) = (1, 0, [])) ∧
    (valP [] ([49, 32, 63, 32, 53, 32, 58] ++ 32 :: 40 :: (s ++ [41])) = (0, 17, []) ∨ valP [] ([49, 32, 63, 32, 53, 32, 58] ++ 32 :: 40 :: (s ++ [41])) = (5, 0, [])) := by
  cases hp : parsed s with
  | none => exact absurd (by unfold valP; rw [hp]) h
  | some n =>
    exact ⟨val_form (form_and hp) fun z => rfl, val_form (form_or hp) fun z => rfl, val_form (form_cho hp) fun z => rfl⟩
end Go.Proofs.YtncjelemjdkklaaDoor
