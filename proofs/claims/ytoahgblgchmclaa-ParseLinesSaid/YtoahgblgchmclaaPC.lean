/- What the lexer makes of a text is what the parser needs. -/
import Derived.Test.YtoahgblgchmclaaLI
import Derived.Test.YtoahgblgchmclaaPB
namespace Go.Proofs.Ytoahgblgchmclaa
set_option linter.unusedVariables false
set_option linter.unusedSimpArgs false
theorem sg_text (c : UInt8) (r : Bs) (h : 0 < sg (c :: r)) : sgTexts.contains ((c :: r).take (sg (c :: r))) = true ∧ ((c = 60 ∨ c = 62) → rdTexts.contains ((c :: r).take (sg (c :: r))) = true) := by
  have one : signB c = true → sgTexts.contains [c] = true ∧ ((c = 60 ∨ c = 62) → rdTexts.contains [c] = true) := by
    intro hs
    unfold signB at hs
    simp only [Bool.or_eq_true, decide_eq_true_eq, or_assoc] at hs
    rcases hs with rfl | rfl | rfl | rfl | rfl | rfl | rfl | rfl <;> exact ⟨by decide, by decide⟩
  cases r with
  | nil =>
    rw [sg_one] at h ⊢
    split at h
    · rename_i hs
      rw [if_pos hs]
      exact one hs
    · omega
  | cons d r =>
    rw [sg_two] at h ⊢
    split at h
    · rename_i h2
      rw [if_pos h2]
      simp only [Bool.or_eq_true, decide_eq_true_eq, List.cons.injEq, and_true] at h2
      rcases h2 with ⟨rfl, rfl⟩ | ⟨rfl, rfl⟩ | ⟨rfl, rfl⟩ | ⟨rfl, rfl⟩ | ⟨rfl, rfl⟩ | ⟨rfl, rfl⟩ | ⟨rfl, rfl⟩ | ⟨rfl, rfl⟩ <;> (rw [List.take_succ_cons, List.take_succ_cons, List.take_zero]; exact ⟨by decide, by decide⟩)
    · rename_i h2
      rw [if_neg h2]
      split at h
      · rename_i hs
        rw [if_pos hs]
        exact one hs
      · omega
theorem sg_lt (c : UInt8) (r : Bs) (h : c = 60 ∨ c = 62) : 0 < sg (c :: r) := by
  have hs : signB c = true := by rcases h with rfl | rfl <;> decide
  cases r with
  | nil => rw [sg_one, if_pos hs]; decide
  | cons d r =>
    rw [sg_two]
    split
    · decide
    · first | decide | (rw [if_pos hs]; decide)
theorem mid_take (l : Bs) (i k : Nat) : mid l i (i + k) = (l.drop i).take k := by
  unfold mid
  rw [Nat.add_sub_cancel_left]
theorem stop_of {l : Bs} {i : Nat} (hb : Beg l i) (h0 : ¬ 0 < sg (l.drop i)) (hi : i < l.length) : stopB (l.getD i 0) = false := by
  obtain ⟨r, hr⟩ := getD_at' hi
  rw [hr] at h0
  have h1 := sg_zero h0
  have h2 : blankB (l.getD i 0) = false := by
    have := hb.1
    unfold blankB
    simp only [Bool.or_eq_false_iff, decide_eq_false_iff_not]
    exact ⟨fun e => this (.inl e), fun e => this (.inr e)⟩
  rw [stop_parts, h1, h2]
  rfl
def rdHead (ts : List Tk) : Prop := ∃ u r, ts = u :: r ∧ u.kind = 2 ∧ rdTexts.contains u.text = true
theorem good_cons {n : Nat} {t : Tk} {r : List Tk} (h : GTk n t) (hk : t.kind = 3 → rdHead r) (hr : Good n r) : Good n (t :: r) := by
  cases r with
  | nil => exact hr.elim
  | cons u r =>
    refine ⟨h, fun e => ?_, hr⟩
    obtain ⟨u', r', e1, h1, h2⟩ := hk e
    cases e1
    exact ⟨h1, h2⟩
theorem allL_good (l : Bs) (hl : l.length ≤ 4096) : ∀ (n i : Nat) (out ts : List Tk), i ≤ l.length → l.length - i ≤ n → allL l n i out = .ok ts →
    ∃ rest, ts = out ++ rest ∧ Good l.length rest ∧ ((l.drop i).head? = some 60 ∨ (l.drop i).head? = some 62 → rdHead rest) := by
  intro n
  induction n with
  | zero =>
    intro i out ts hi hn h
    rw [allL] at h
    injection h with h
    exact ⟨_, h.symm, ⟨rfl, rfl, Nat.le_refl _⟩, fun h => by rw [List.drop_eq_nil_of_le (by omega)] at h; simp at h⟩
  | succ n ih =>
    intro i out ts hi hn h
    rw [allL] at h
    split at h
    · rename_i hlt
      injection h with h
      exact ⟨_, h.symm, ⟨rfl, rfl, Nat.le_refl _⟩, fun h => by rw [List.drop_eq_nil_of_le (by omega)] at h; simp at h⟩
    rename_i hlt
    have hlt : i < l.length := by omega
    obtain ⟨r0, hr0⟩ := getD_at' hlt
    split at h
    · rename_i hb
      obtain ⟨rest, h1, h2, h3⟩ := ih (i + 1) out ts hlt (by omega) h
      refine ⟨rest, h1, h2, fun h => ?_⟩
      rw [hr0] at h
      simp only [List.head?_cons, Option.some.injEq] at h
      exact absurd hb (by rcases h with h | h <;> rw [h] <;> decide)
    rename_i hnb
    split at h
    · rename_i hb
      have hi2 : i + 1 < l.length := by
        refine Nat.lt_of_not_le fun hn' => ?_
        have := hb.2
        rw [List.drop_eq_nil_of_le (by omega)] at this
        simp at this
      obtain ⟨rest, h1, h2, h3⟩ := ih (i + 2) out ts hi2 (by omega) h
      refine ⟨rest, h1, h2, fun h => ?_⟩
      rw [hr0] at h
      simp only [List.head?_cons, Option.some.injEq] at h
      exact absurd hb.1 (by rcases h with h | h <;> rw [h] <;> decide)
    rename_i hnn
    split at h
    · rename_i hb
      have h1 : i < cmt l i := by
        unfold cmt
        rw [hr0, List.takeWhile_cons, hb]
        simp
      have h2 : cmt l i ≤ l.length := by
        unfold cmt
        have := (List.takeWhile_prefix (l := l.drop i) (fun c => c != 10)).length_le
        rw [List.length_drop] at this
        omega
      obtain ⟨rest, h3, h4, h5⟩ := ih (cmt l i) out ts h2 (by omega) h
      refine ⟨rest, h3, h4, fun h => ?_⟩
      rw [hr0] at h
      simp only [List.head?_cons, Option.some.injEq] at h
      exact absurd hb (by rcases h with h | h <;> rw [h] <;> decide)
    rename_i hn35
    have hbeg : Beg l i := ⟨hnb, hnn, hn35⟩
    split at h
    · cases h
    split at h
    · rename_i h0
      have hle := sg_len (l.drop i)
      rw [List.length_drop] at hle
      obtain ⟨rest, hr, hg, _⟩ := ih _ _ ts (by omega) (by omega) h
      rw [List.append_assoc] at hr
      rw [mid_take] at hr
      have h0' := h0
      rw [hr0] at h0'
      have hs := sg_text _ _ h0'
      rw [← hr0] at hs
      have hne : ¬ (l.drop i).take (sg (l.drop i)) = [] := fun e => by
        have := congrArg List.length e
        rw [List.length_take, List.length_drop] at this
        simp at this
        omega
      refine ⟨_, hr, good_cons ⟨hne, by show ((l.drop i).take _).length ≤ _; rw [List.length_take, List.length_drop]; omega, by show i ≤ l.length; omega, .inl ⟨rfl, hs.1⟩⟩ (fun e => by cases e) hg, fun h => ⟨_, _, rfl, rfl, hs.2 ?_⟩⟩
      rw [hr0] at h
      simpa using h
    · rename_i h0
      split at h
      · rename_i j hj
        have hjl := tkR_lt (l := l) (i := i) (j := j) hlt hbeg (by rw [tkR, if_neg h0]; exact hj)
        obtain ⟨rest, hr, hg, hrd⟩ := ih _ _ ts (by omega) (by omega) h
        rw [List.append_assoc] at hr
        obtain ⟨m, rfl⟩ : ∃ m, j = i + (m + 1) := ⟨j - i - 1, by omega⟩
        rw [mid_take, hr0, List.take_succ_cons] at hr
        refine ⟨_, hr, good_cons ⟨by simp, ?_, by show i ≤ l.length; omega, ?_⟩ ?_ hg, fun h => ?_⟩
        · show (l.getD i 0 :: r0.take m).length ≤ 4096
          have := congrArg List.length hr0
          simp only [List.length_drop, List.length_cons] at this
          rw [List.length_cons, List.length_take]
          omega
        · show (wkind l i _ = 2 ∧ _) ∨ (wkind l i _ = 1 ∧ stopB (l.getD i 0) = false) ∨ (wkind l i _ = 3 ∧ ∃ c, l.getD i 0 :: r0.take m = [c] ∧ isDig c = true)
          unfold wkind
          split
          · rename_i hw
            obtain rfl : m = 0 := by omega
            exact .inr (.inr ⟨rfl, _, by rw [List.take_zero], hw.2.1⟩)
          · exact .inr (.inl ⟨rfl, stop_of hbeg h0 hlt⟩)
        · intro e
          have e' : wkind l i (i + (m + 1)) = 3 := e
          unfold wkind at e'
          split at e'
          · rename_i hw
            exact hrd hw.2.2
          · cases e'
        · rw [hr0] at h
          simp only [List.head?_cons, Option.some.injEq] at h
          rw [hr0] at h0
          exact absurd (sg_lt _ _ h) h0
      · cases h
      · cases h
theorem allA_good {l : Bs} {ts : List Tk} (h : allA l = .ok ts) : Good l.length ts ∧ l.length ≤ 4096 := by
  unfold allA at h
  split at h
  · cases h
  · rename_i hl
    obtain ⟨rest, h1, h2, _⟩ := allL_good l (by omega) _ 0 [] ts (Nat.zero_le _) (by omega) h
    rw [h1]
    exact ⟨h2, by omega⟩
end Go.Proofs.Ytoahgblgchmclaa
