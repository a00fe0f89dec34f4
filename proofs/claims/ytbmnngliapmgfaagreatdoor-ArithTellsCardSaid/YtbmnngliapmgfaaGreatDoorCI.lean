/- The document's signs and words are the tokens. -/
import Derived.Test.YtbmnngliapmgfaaGreatDoorCG
namespace Go.Proofs.YtbmnngliapmgfaaGreatDoor
open Go.RowKit
set_option linter.unusedVariables false
set_option linter.unusedSimpArgs false
def R3 : List Bs := refS.take 2
def R2 : List Bs := (refS.drop 2).take 16
def R1 : List Bs := refS.drop 18
theorem find_len (l : Bs) (m : Nat) : ∀ R : List Bs, (∀ t ∈ R, t.length = m) → R.find? (fun t => l.take t.length == t) = if R.contains (l.take m) = true then some (l.take m) else none
  | [], _ => rfl
  | t :: R, h => by
    have ht := h t (by simp)
    rw [List.find?_cons, ht, List.contains_cons]
    by_cases e : l.take m = t
    · rw [e]; simp
    · have e1 : (l.take m == t) = false := by simpa using e
      rw [e1, Bool.false_or]
      exact find_len l m R fun u hu => h u (by simp [hu])
theorem sgn_set (m : Nat) (R : List Bs) (h1 : ∀ t ∈ signL ++ assignL, t.length = m → R.contains t = true) (h2 : ∀ t ∈ R, isSgn t = true ∧ t.length = m) (l : Bs) : (m ≤ l.length ∧ isSgn (l.take m) = true) ↔ R.contains (l.take m) = true := by
  constructor
  · rintro ⟨hl, hs⟩
    refine h1 _ ?_ (by rw [List.length_take]; omega)
    unfold isSgn isAsg at hs
    simpa using hs
  · intro h
    obtain ⟨a, b⟩ := h2 (l.take m) (by simpa using h)
    rw [List.length_take] at b
    exact ⟨by omega, a⟩
theorem sgR_sgn (l : Bs) : sgR l = match sgnN l with
    | some k => l.take k
    | none => [] := by
  have e : refS = R3 ++ (R2 ++ R1) := by decide
  unfold sgR sgnN
  rw [e, List.find?_append, List.find?_append, find_len l 3 R3 (by decide), find_len l 2 R2 (by decide), find_len l 1 R1 (by decide)]
  have k3 := sgn_set 3 R3 (by decide) (by decide) l
  have k2 := sgn_set 2 R2 (by decide) (by decide) l
  have k1 := sgn_set 1 R1 (by decide) (by decide) l
  by_cases h3 : R3.contains (l.take 3) = true
  · rw [if_pos h3, if_pos (k3.2 h3)]; rfl
  · rw [if_neg h3, if_neg (fun h => h3 (k3.1 h))]
    by_cases h2 : R2.contains (l.take 2) = true
    · rw [if_pos h2, if_pos (k2.2 h2)]; rfl
    · rw [if_neg h2, if_neg (fun h => h2 (k2.1 h))]
      by_cases h1 : R1.contains (l.take 1) = true
      · rw [if_pos h1, if_pos (k1.2 h1)]; rfl
      · rw [if_neg h1, if_neg (fun h => h1 (k1.1 h))]; rfl
/-! words -/
/-- a byte that ends a word. -/
def WS (c : UInt8) : Prop := dg c = 16 ∧ isLt c = false ∧ isDg c = false ∧ c ≠ 120 ∧ c ≠ 88
theorem ws_of {c : UInt8} (h : (isLt c || isDg c) = false) : WS c := by
  simp only [Bool.or_eq_false_iff] at h
  refine ⟨?_, h.1, h.2, ?_, ?_⟩
  · unfold dg
    have hl := h.1
    unfold isLt at hl
    simp only [Bool.or_eq_false_iff, Bool.and_eq_false_iff, decide_eq_false_iff_not] at hl
    rw [if_neg (by rw [h.2]; decide), if_neg (by omega), if_neg (by omega)]
  · rintro rfl; exact absurd h.1 (by decide)
  · rintro rfl; exact absurd h.1 (by decide)
theorem dlen_ws (b : Nat) (hb : b ≤ 16) {c : UInt8} (hc : WS c) (r : Bs) : ∀ s : Bs, dlen b (s ++ c :: r) = dlen b s
  | [] => by
    have := (hc).1
    show (if dg c < b then _ else 0) = 0
    rw [if_neg (by omega)]
  | x :: s => by
    rw [List.cons_append, dlen, dlen, dlen_ws b hb hc r s]
theorem dval_ws (b : Nat) (hb : b ≤ 16) {c : UInt8} (hc : WS c) (r : Bs) : ∀ (s : Bs) (v : Nat), dval b (s ++ c :: r) v = dval b s v
  | [], v => by
    have := (hc).1
    show (if dg c < b then _ else v) = v
    rw [if_neg (by omega)]
  | x :: s, v => by
    rw [List.cons_append, dval, dval, dval_ws b hb hc r s]
theorem nameN_ws {c : UInt8} (hc : WS c) (r : Bs) : ∀ s : Bs, nameN (s ++ c :: r) = nameN s
  | [] => by
    obtain ⟨-, h1, h2, -⟩ := hc
    show (if (isLt c || isDg c) = true then _ else 0) = 0
    rw [h1, h2]; rfl
  | x :: s => by
    rw [List.cons_append, nameN, nameN, nameN_ws hc r s]
theorem hexB_ws {c : UInt8} (hc : WS c) (r : Bs) : ∀ s : Bs, s ≠ [] → hexB (s ++ c :: r) = hexB s
  | [], h => absurd rfl h
  | [x], _ => by
    obtain ⟨-, -, -, h1, h2⟩ := hc
    cases r with
    | nil => rfl
    | cons d q => simp [hexB, h1, h2]
  | [x, y], _ => by
    have := (hc).1
    simp [hexB, this]
  | x :: y :: z :: q, _ => rfl
theorem base_ws {c : UInt8} (hc : WS c) (r s : Bs) (hs : s ≠ []) : base (s ++ c :: r) = base s := by
  unfold base
  rw [hexB_ws hc r s hs]
  cases s with
  | nil => exact absurd rfl hs
  | cons x q => rfl
theorem cstN_ws {c : UInt8} (hc : WS c) (r s : Bs) (hs : s ≠ []) : cstN (s ++ c :: r) = cstN s := by
  unfold cstN
  rw [base_ws hc r s hs, drop_stop _ _ _ (base_le s), dlen_ws _ (base_16 s) hc]
theorem cstV_ws {c : UInt8} (hc : WS c) (r s : Bs) (hs : s ≠ []) : cstV (s ++ c :: r) = cstV s := by
  unfold cstV
  rw [base_ws hc r s hs, drop_stop _ _ _ (base_le s), dval_ws _ (base_16 s) hc]
theorem word_rest : ∀ l : Bs, l = wordB l ∨ ∃ c r, l = wordB l ++ c :: r ∧ (isLt c || isDg c) = false
  | [] => .inl rfl
  | c :: r => by
    unfold wordB
    rw [nameN]
    by_cases h : (isLt c || isDg c) = true
    · rw [if_pos h, List.take_succ_cons]
      rcases word_rest r with e | ⟨d, q, e, hd⟩
      · left; exact congrArg (c :: ·) e
      · right
        exact ⟨d, q, congrArg (c :: ·) e, hd⟩
    · rw [if_neg h]
      right
      exact ⟨c, r, rfl, by simpa using h⟩
/-- a word's constant is the text's. -/
theorem word_cst (l : Bs) (h : isC l = true) : cstN (wordB l) = cstN l ∧ cstV (wordB l) = cstV l ∧ (wordB l).length = nameN l ∧ wordB l ≠ [] := by
  have hl : (wordB l).length = nameN l := by
    unfold wordB
    rw [List.length_take]
    have := nameN_le l
    omega
  have hne : wordB l ≠ [] := by
    intro e
    rw [e] at hl
    have h0 := cstN_pos h
    have := cst_le_name l
    simp at hl
    omega
  refine ⟨?_, ?_, hl, hne⟩
  · rcases word_rest l with e | ⟨c, r, e, hc⟩
    · rw [← e]
    · conv => rhs; rw [e]
      exact (cstN_ws (ws_of hc) r _ hne).symm
  · rcases word_rest l with e | ⟨c, r, e, hc⟩
    · rw [← e]
    · conv => rhs; rw [e]
      exact (cstV_ws (ws_of hc) r _ hne).symm
end Go.Proofs.YtbmnngliapmgfaaGreatDoor
