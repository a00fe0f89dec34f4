/- Tokens of texts laid together; the parser over more tokens, with more fuel and from less deep. -/
import Derived.Test.YtbmnngliapmgfaaGreatDoorBC
namespace Go.Proofs.YtbmnngliapmgfaaGreatDoor
open Go.RowKit
set_option linter.unusedVariables false
set_option linter.unusedSimpArgs false
def Stop (c : UInt8) : Prop := c = 32 ∨ c = 41
theorem stop_facts {c : UInt8} (h : Stop c) : dg c = 16 ∧ isLt c = false ∧ isDg c = false ∧ c ≠ 120 ∧ c ≠ 88 := by
  rcases h with rfl | rfl <;> exact ⟨by decide, by decide, by decide, by decide, by decide⟩
theorem sgn_stop : ∀ t, isSgn t = true → t.length = 1 ∨ ∀ d ∈ t, d ≠ 32 ∧ d ≠ 41 := by
  have h : ∀ t ∈ signL ++ assignL, t.length = 1 ∨ ∀ d ∈ t, d ≠ 32 ∧ d ≠ 41 := by decide
  intro t ht
  apply h
  unfold isSgn isAsg at ht
  simpa using ht
theorem sgn_not {t : Bs} {c : UInt8} (hc : Stop c) (hm : c ∈ t) (hl : 2 ≤ t.length) : isSgn t = false := by
  cases h : isSgn t with
  | false => rfl
  | true =>
    rcases sgn_stop t h with h1 | h1
    · omega
    · have := h1 c hm
      rcases hc with rfl | rfl
      · exact absurd rfl this.1
      · exact absurd rfl this.2
theorem dlen_stop (b : Nat) (hb : b ≤ 16) {c : UInt8} (hc : Stop c) (r : Bs) : ∀ s : Bs, dlen b (s ++ c :: r) = dlen b s
  | [] => by
    have := (stop_facts hc).1
    show (if dg c < b then _ else 0) = 0
    rw [if_neg (by omega)]
  | x :: s => by
    rw [List.cons_append, dlen, dlen, dlen_stop b hb hc r s]
theorem dval_stop (b : Nat) (hb : b ≤ 16) {c : UInt8} (hc : Stop c) (r : Bs) : ∀ (s : Bs) (v : Nat), dval b (s ++ c :: r) v = dval b s v
  | [], v => by
    have := (stop_facts hc).1
    show (if dg c < b then _ else v) = v
    rw [if_neg (by omega)]
  | x :: s, v => by
    rw [List.cons_append, dval, dval, dval_stop b hb hc r s]
theorem nameN_stop {c : UInt8} (hc : Stop c) (r : Bs) : ∀ s : Bs, nameN (s ++ c :: r) = nameN s
  | [] => by
    obtain ⟨-, h1, h2, -⟩ := stop_facts hc
    show (if (isLt c || isDg c) = true then _ else 0) = 0
    rw [h1, h2]; rfl
  | x :: s => by
    rw [List.cons_append, nameN, nameN, nameN_stop hc r s]
theorem hexB_stop {c : UInt8} (hc : Stop c) (r : Bs) : ∀ s : Bs, s ≠ [] → hexB (s ++ c :: r) = hexB s
  | [], h => absurd rfl h
  | [x], _ => by
    obtain ⟨-, -, -, h1, h2⟩ := stop_facts hc
    cases r with
    | nil => rfl
    | cons d q => simp [hexB, h1, h2]
  | [x, y], _ => by
    have := (stop_facts hc).1
    simp [hexB, this]
  | x :: y :: z :: q, _ => rfl
theorem base_stop {c : UInt8} (hc : Stop c) (r s : Bs) (hs : s ≠ []) : base (s ++ c :: r) = base s := by
  unfold base
  rw [hexB_stop hc r s hs]
  cases s with
  | nil => exact absurd rfl hs
  | cons x q => rfl
theorem base_16 (s : Bs) : (base s).1 ≤ 16 := by
  rcases base_two s with h | h | h <;> omega
theorem drop_stop (s t : Bs) (k : Nat) (h : k ≤ s.length) : (s ++ t).drop k = s.drop k ++ t := by
  rw [List.drop_append_of_le_length h]
theorem cstN_stop {c : UInt8} (hc : Stop c) (r s : Bs) (hs : s ≠ []) : cstN (s ++ c :: r) = cstN s := by
  unfold cstN
  rw [base_stop hc r s hs, drop_stop _ _ _ (base_le s), dlen_stop _ (base_16 s) hc]
theorem cstV_stop {c : UInt8} (hc : Stop c) (r s : Bs) (hs : s ≠ []) : cstV (s ++ c :: r) = cstV s := by
  unfold cstV
  rw [base_stop hc r s hs, drop_stop _ _ _ (base_le s), dval_stop _ (base_16 s) hc]
theorem sgnN_stop {c : UInt8} (hc : Stop c) (r s : Bs) (hs : s ≠ []) : sgnN (s ++ c :: r) = sgnN s := by
  unfold sgnN
  match s, hs with
  | [x], _ =>
    have h3 : isSgn (([x] ++ c :: r).take 3) = false := sgn_not hc (by simp) (by simp)
    have h2 : isSgn (([x] ++ c :: r).take 2) = false := sgn_not hc (by simp) (by simp)
    rw [h3, h2]
    simp
  | [x, y], _ =>
    have h3 : isSgn (([x, y] ++ c :: r).take 3) = false := sgn_not hc (by simp) (by simp)
    rw [h3]
    simp
  | x :: y :: z :: q, _ => simp
theorem tokN_stop {c : UInt8} (hc : Stop c) (r s : Bs) (hs : s ≠ []) : tokN (s ++ c :: r) = tokN s := by
  unfold tokN
  rw [cstN_stop hc r s hs, nameN_stop hc r s, sgnN_stop hc r s hs]
  cases s with
  | nil => exact absurd rfl hs
  | cons x q => rfl
theorem toks_trim {s s' : Bs} (h : trimB s = trimB s') : toks s = toks s' := by
  unfold toks
  rw [h]
  exact toksT_more _ _ _ (by have := trimB_le s; rw [h] at this; omega) (by have := trimB_le s'; omega)
theorem toks_nil {s : Bs} (h : trimB s = []) : toks s = some [] := by
  unfold toks
  rw [h]; rfl
theorem toks_step {s : Bs} (h : trimB s ≠ []) : toks s = match tokN (trimB s) with
    | none => none
    | some k => (toks ((trimB s).drop k)).map ((trimB s).take k :: ·) := by
  have hl := trimB_le s
  unfold toks
  rw [toksT, if_neg h]
  cases hk : tokN (trimB s) with
  | none => rfl
  | some k =>
    obtain ⟨h0, h1⟩ := tokN_pos hk
    have h2 := trimB_le ((trimB s).drop k)
    dsimp only
    rw [List.length_drop] at *
    rw [toksT_more s.length ((trimB s).length - k + 1) _ (by omega) (by omega)]
theorem toks_app {c : UInt8} (hc : Stop c) (r : Bs) : ∀ (n : Nat) (s : Bs), s.length ≤ n → toks (s ++ c :: r) = (toks s).bind fun a => (toks (c :: r)).map (a ++ ·) := by
  intro n
  induction n with
  | zero =>
    intro s hs
    obtain rfl : s = [] := List.length_eq_zero_iff.1 (by omega)
    rw [toks_nil (s := []) rfl, List.nil_append]
    cases toks (c :: r) <;> rfl
  | succ n ih =>
    intro s hs
    have hd : trimB (s ++ c :: r) = if (trimB s).isEmpty then trimB (c :: r) else trimB s ++ c :: r := List.dropWhile_append
    by_cases he : trimB s = []
    · rw [he] at hd
      rw [toks_nil he, toks_trim (s := s ++ c :: r) (s' := c :: r) (by rw [hd]; rfl)]
      cases toks (c :: r) <;> simp
    · rw [if_neg (by simpa using he)] at hd
      rw [toks_step (s := s ++ c :: r) (by rw [hd]; simp), toks_step he, hd, tokN_stop hc r _ he]
      cases hk : tokN (trimB s) with
      | none => rfl
      | some k =>
        obtain ⟨h0, h1⟩ := tokN_pos hk
        have hl := trimB_le s
        dsimp only
        rw [drop_stop _ _ _ h1, List.take_append_of_le_length h1, ih _ (by rw [List.length_drop]; omega)]
        cases toks ((trimB s).drop k) with
        | none => rfl
        | some a => cases toks (c :: r) <;> rfl
theorem toks_stop {c : UInt8} (hc : Stop c) (r s : Bs) : toks (s ++ c :: r) = (toks s).bind fun a => (toks (c :: r)).map (a ++ ·) := toks_app hc r _ s (Nat.le_refl _)
theorem toks_blank (s : Bs) : toks (32 :: s) = toks s := toks_trim rfl
/-- the bracket that opens. -/
theorem toks_open (s : Bs) : toks (40 :: s) = (toks s).map ([40] :: ·) := by
  have e : trimB (40 :: s) = 40 :: s := rfl
  have h3 : ∀ a b : UInt8, isSgn [40, a, b] = false := by
    intro a b
    simp [isSgn, isAsg, signL, assignL]
  have h2 : ∀ a : UInt8, isSgn [40, a] = false := by
    intro a
    simp [isSgn, isAsg, signL, assignL]
  have hk : tokN (40 :: s) = some 1 := by
    have : sgnN (40 :: s) = some 1 := by
      unfold sgnN
      match s with
      | [] => rfl
      | [a] => simp [h2]; decide
      | a :: b :: q => simp [h2, h3]; decide
    unfold tokN
    rw [this]; rfl
  rw [toks_step (by rw [e]; simp), e, hk]
  rfl
/-! the parser -/
theorem lev_41 (k : Nat) : (lev k).contains [41] = false := by
  match k with
  | 0 | 1 | 2 | 3 | 4 | 5 | 6 | 7 | 8 | 9 => decide
  | k + 10 => rfl
def TT (T : List Bs) : Prop := ∀ t, T.head? = some t → t = [41]
theorem pP_asgc {f o : Nat} {ts : List Bs} (h : ∀ a b r, ts = a :: b :: r → (isN a && isAsg b) = false) : pP (f + 1) .asg o ts = if 24 < o then none else pP f .cho (o + 1) ts := by
  match ts, h with
  | [], _ => rfl
  | [a], _ => rfl
  | a :: b :: r, h => rw [pP_asg2, h a b r rfl]; simp
theorem head_tt {T : List Bs} (hT : TT T) (r : List Bs) {x : Bs} (hx : x ≠ [41]) : (r ++ T).head? = some x ↔ r.head? = some x := by
  cases r with
  | nil =>
    constructor
    · intro h; exact absurd (hT _ h) hx
    · intro h; cases h
  | cons a q => rfl
theorem tail_tt {T : List Bs} {r : List Bs} {x : Bs} (h : r.head? = some x) : (r ++ T).tail = r.tail ++ T := by
  cases r with
  | nil => cases h
  | cons a q => rfl
/-- what the parser read it reads again: with more behind it, with more fuel, from less deep. -/
theorem pP_ext (T : List Bs) (hT : TT T) : ∀ (f f' : Nat) (K : Kd) (o o' : Nat) (ts : List Bs) (n : Nd) (r : List Bs), pP f K o ts = some (n, r) → f ≤ f' → o' ≤ o → pP f' K o' (ts ++ T) = some (n, r ++ T) := by
  intro f
  induction f with
  | zero => intro f' K o o' ts n r h; cases h
  | succ f ih =>
    intro f' K o o' ts n r h hf ho
    obtain ⟨f', rfl⟩ : ∃ q, f' = q + 1 := ⟨f' - 1, by omega⟩
    have hf : f ≤ f' := by omega
    cases K with
    | asg =>
      by_cases hts : ∃ a b q, ts = a :: b :: q ∧ (isN a && isAsg b) = true
      · obtain ⟨a, b, q, rfl, hab⟩ := hts
        rw [pP_asg2] at h
        rw [List.cons_append, List.cons_append, pP_asg2]
        split at h
        · cases h
        · rw [if_neg (by omega), if_pos hab]
          try rw [if_pos hab] at h
          cases hx : pP f .asg (o + 1) q with
          | none => rw [hx] at h; cases h
          | some x =>
            rw [hx] at h; cases h
            rw [ih f' .asg (o + 1) (o' + 1) q x.1 x.2 hx hf (by omega)]; rfl
      · have hc : ∀ a b r, ts = a :: b :: r → (isN a && isAsg b) = false := by
          intro a b r e
          cases hq : isN a && isAsg b with
          | false => rfl
          | true => exact absurd ⟨a, b, r, e, hq⟩ hts
        rw [pP_asgc hc] at h
        have hc' : ∀ a b r, ts ++ T = a :: b :: r → (isN a && isAsg b) = false := by
          intro a b r e
          match ts, e with
          | [], e =>
            have := hT a (by rw [← List.nil_append T, e]; rfl)
            subst this; rfl
          | [x], e =>
            have := hT b (by rw [show T = b :: r from (List.cons.inj e).2]; rfl)
            subst this
            cases isN a <;> rfl
          | x :: y :: q, e =>
            obtain ⟨e1, e⟩ := List.cons.inj e
            obtain ⟨e2, e⟩ := List.cons.inj e
            rw [← e1, ← e2]
            exact hc x y q rfl
        rw [pP_asgc hc']
        split at h
        · cases h
        · rw [if_neg (by omega)]
          exact ih f' .cho (o + 1) (o' + 1) ts n r h hf (by omega)
    | cho =>
      rw [pP_cho] at h ⊢
      split at h
      · cases h
      · rw [if_neg (by omega)]
        split at h
        · cases h
        · rename_i c q hq
          rw [ih f' (.lev 0) (o + 1) (o' + 1) ts c q hq hf (by omega)]
          dsimp only
          split at h
          · rename_i hh
            rw [if_pos ((head_tt hT q (by decide)).2 hh), tail_tt hh]
            split at h
            · cases h
            · rename_i y r2 hy
              rw [ih f' .asg (o + 1) (o' + 1) q.tail y r2 hy hf (by omega)]
              dsimp only
              split at h
              · rename_i hh2
                rw [if_pos ((head_tt hT r2 (by decide)).2 hh2), tail_tt hh2]
                cases hx : pP f .cho (o + 1) r2.tail with
                | none => rw [hx] at h; cases h
                | some x =>
                  rw [hx] at h; cases h
                  rw [ih f' .cho (o + 1) (o' + 1) r2.tail x.1 x.2 hx hf (by omega)]; rfl
              · cases h
          · rename_i hh
            rw [if_neg (fun e => hh ((head_tt hT q (by decide)).1 e))]
            cases h; rfl
    | lev k =>
      rw [pP_lev] at h ⊢
      split at h
      · cases h
      · rename_i l q hq
        rw [ih f' (opK k) o o' ts l q hq hf ho]
        exact ih f' (.more k l) o o' q n r h hf ho
    | more k l =>
      match ts, h with
      | [], h =>
        rw [pP_more0] at h
        cases h
        cases T with
        | nil => rfl
        | cons t T' =>
          have := hT t rfl
          subst this
          rw [List.nil_append, pP_more, lev_41 k]; rfl
      | t :: q, h =>
        rw [pP_more] at h
        rw [List.cons_append, pP_more]
        split at h
        · rename_i hh
          rw [if_pos hh]
          split at h
          · cases h
          · rename_i x r2 hx
            rw [ih f' (opK k) o o' q x r2 hx hf ho]
            exact ih f' (.more k (.bin t l x)) o o' r2 n r h hf ho
        · rename_i hh
          rw [if_neg hh]
          cases h; rfl
    | un =>
      match ts, h with
      | [], h => rw [pP_un0] at h; cases h
      | t :: q, h =>
        rw [pP_un] at h
        rw [List.cons_append, pP_un]
        split at h
        · cases h
        · rw [if_neg (by omega)]
          split at h
          · rename_i hh
            rw [if_pos hh]
            cases hx : pP f .un (o + 1) q with
            | none => rw [hx] at h; cases h
            | some x =>
              rw [hx] at h; cases h
              rw [ih f' .un (o + 1) (o' + 1) q x.1 x.2 hx hf (by omega)]; rfl
          · rename_i hh
            rw [if_neg hh]
            split at h
            · rename_i h4
              rw [if_pos h4]
              split at h
              · cases h
              · rename_i x r2 hx
                rw [ih f' .asg (o + 1) (o' + 1) q x r2 hx hf (by omega)]
                dsimp only
                split at h
                · rename_i h5
                  rw [if_pos (show (r2 ++ T).head? = some [41] by cases r2 with
                    | nil => cases h5
                    | cons _ _ => exact h5), tail_tt h5]
                  cases h; rfl
                · cases h
            · rename_i h4
              rw [if_neg h4]
              split at h
              · rename_i h5
                rw [if_pos h5]; cases h; rfl
              · rename_i h5
                rw [if_neg h5]
                split at h
                · rename_i h6
                  rw [if_pos h6]; cases h; rfl
                · cases h
end Go.Proofs.YtbmnngliapmgfaaGreatDoor
