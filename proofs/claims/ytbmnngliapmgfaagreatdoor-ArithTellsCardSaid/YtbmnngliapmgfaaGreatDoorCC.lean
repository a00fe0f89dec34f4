/- Tokens as the document's reader meets them: a word that is no constant is a mark that no row takes. -/
/- A text's tree by the document's tokens. -/
import Derived.Test.YtbmnngliapmgfaaGreatDoorCD
import Derived.Test.YtbmnngliapmgfaaGreatDoorBH
namespace Go.Proofs.YtbmnngliapmgfaaGreatDoor
open Go.RowKit
set_option linter.unusedVariables false
set_option linter.unusedSimpArgs false
def mark : Bs := [0]
def tokXT : Nat → Bs → List Bs
  | 0, _ => [mark]
  | f + 1, s => if s = [] then [] else if isC s = true ∧ cstN s ≠ nameN s then [mark] else match tokN s with
    | none => [mark]
    | some k => s.take k :: tokXT f (trimB (s.drop k))
def tokX (s : Bs) : List Bs := tokXT (s.length + 1) (trimB s)
def nadj : List Bs → Prop
  | t :: u :: r => ¬(isC t = true ∧ (isC u = true ∨ isN u = true)) ∧ nadj (u :: r)
  | _ => True
def opHead (c : List Bs) : Prop := ∀ t, c.head? = some t → isC t = false ∧ isN t = false
theorem nadj_cons {t : Bs} {b : List Bs} (ht : isC t = false) (hb : nadj b) : nadj (t :: b) := by
  cases b with
  | nil => trivial
  | cons u r => exact ⟨fun h => absurd h.1 (by rw [ht]; decide), hb⟩
theorem nadj_app : ∀ {a b : List Bs}, nadj a → nadj b → opHead b → nadj (a ++ b)
  | [], b, _, hb, _ => hb
  | [t], [], _, _, _ => trivial
  | [t], u :: r, _, hb, ho => ⟨fun h => h.2.elim (fun k => absurd k (by rw [(ho u rfl).1]; decide)) (fun k => absurd k (by rw [(ho u rfl).2]; decide)), hb⟩
  | t :: u :: r, b, ha, hb, ho => ⟨ha.1, nadj_app (a := u :: r) ha.2 hb ho⟩
theorem opHead_cons {t : Bs} {b : List Bs} (h1 : isC t = false) (h2 : isN t = false) : opHead (t :: b) := fun x hx => by
  cases hx; exact ⟨h1, h2⟩
theorem isN_C {t : Bs} (h : isN t = true) : isC t = false := by
  cases t with
  | nil => rfl
  | cons c r =>
    have hl : isLt c = true := h
    show isDg c = false
    unfold isLt at hl
    unfold isDg
    simp only [Bool.or_eq_true, Bool.and_eq_true, decide_eq_true_eq] at hl
    simp only [Bool.and_eq_false_iff, decide_eq_false_iff_not]
    omega
theorem lev_op {k : Nat} {t : Bs} (h : (lev k).contains t = true) : isC t = false ∧ isN t = false ∧ t ≠ mark := by
  have hall : ∀ k, ((lev k).all fun u => !isC u && !isN u && u != mark) = true := by
    intro k
    match k with
    | 0 | 1 | 2 | 3 | 4 | 5 | 6 | 7 | 8 | 9 => decide
    | k + 10 => rfl
  have := List.all_eq_true.1 (hall k) t (by simpa using h)
  simpa [and_assoc] using this
/-- what the parser takes has no mark, and no word right behind a constant. -/
theorem pP_nadj : ∀ (f : Nat) (K : Kd) (o : Nat) (ts : List Bs) (n : Nd) (r : List Bs), pP f K o ts = some (n, r) →
    ∃ c, ts = c ++ r ∧ mark ∉ c ∧ nadj c ∧ (∀ k l, K = .more k l → opHead c) := by
  intro f
  induction f with
  | zero => intro K o ts n r h; cases h
  | succ f ih =>
    intro K o ts n r h
    cases K with
    | asg =>
      by_cases hts : ∃ a b q, ts = a :: b :: q ∧ (isN a && isAsg b) = true
      · obtain ⟨a, b, q, rfl, hab⟩ := hts
        rw [pP_asg2] at h
        by_cases h24 : 24 < o
        · rw [if_pos h24] at h; cases h
        · rw [if_neg h24, if_pos hab] at h
          cases hx : pP f .asg (o + 1) q with
          | none => rw [hx] at h; cases h
          | some x =>
            rw [hx] at h; cases h
            obtain ⟨c, rfl, hm, hn, -⟩ := ih .asg (o + 1) q x.1 x.2 hx
            simp only [Bool.and_eq_true] at hab
            have hb : isC b = false ∧ b ≠ mark := by
              have hall : ∀ u ∈ assignL, isC u = false ∧ u ≠ mark := by decide
              exact hall b (by have := hab.2; unfold isAsg at this; simpa using this)
            have ha : a ≠ mark := by rintro rfl; exact absurd hab.1 (by decide)
            refine ⟨a :: b :: c, rfl, ?_, nadj_cons (isN_C hab.1) (nadj_cons hb.1 hn), fun k l e => by cases e⟩
            simp only [List.mem_cons, not_or]
            exact ⟨Ne.symm ha, Ne.symm hb.2, hm⟩
      · have hc : ∀ a b r, ts = a :: b :: r → (isN a && isAsg b) = false := by
          intro a b r e
          cases hq : isN a && isAsg b with
          | false => rfl
          | true => exact absurd ⟨a, b, r, e, hq⟩ hts
        rw [pP_asgc hc] at h
        by_cases h24 : 24 < o
        · rw [if_pos h24] at h; cases h
        · rw [if_neg h24] at h
          obtain ⟨c, e, hm, hn, -⟩ := ih .cho (o + 1) ts n r h
          exact ⟨c, e, hm, hn, fun k l e => by cases e⟩
    | cho =>
      rw [pP_cho] at h
      by_cases h24 : 24 < o
      · rw [if_pos h24] at h; cases h
      · rw [if_neg h24] at h
        split at h
        · cases h
        · rename_i c q hq
          obtain ⟨c1, rfl, m1, n1, -⟩ := ih (.lev 0) (o + 1) ts c q hq
          split at h
          · rename_i hh
            split at h
            · cases h
            · rename_i y r2 hy
              obtain ⟨c2, e2, m2, n2, -⟩ := ih .asg (o + 1) q.tail y r2 hy
              split at h
              · rename_i hh2
                cases hx : pP f .cho (o + 1) r2.tail with
                | none => rw [hx] at h; cases h
                | some x =>
                  rw [hx] at h; cases h
                  obtain ⟨c3, e3, m3, n3, -⟩ := ih .cho (o + 1) r2.tail x.1 x.2 hx
                  have q1 : q = [63] :: q.tail := by
                    cases q with
                    | nil => cases hh
                    | cons a b => cases hh; rfl
                  have q2 : r2 = [58] :: r2.tail := by
                    cases r2 with
                    | nil => cases hh2
                    | cons a b => cases hh2; rfl
                  refine ⟨c1 ++ [63] :: (c2 ++ [58] :: c3), ?_, ?_, ?_, fun k l e => by cases e⟩
                  · rw [q1, e2, q2, e3]; simp
                  · simp only [List.mem_append, List.mem_cons, not_or]
                    exact ⟨m1, by decide, m2, by decide, m3⟩
                  · exact nadj_app n1 (nadj_cons (by decide) (nadj_app n2 (nadj_cons (by decide) n3) (opHead_cons (by decide) (by decide)))) (opHead_cons (by decide) (by decide))
              · cases h
          · cases h
            exact ⟨c1, rfl, m1, n1, fun k l e => by cases e⟩
    | lev k =>
      rw [pP_lev] at h
      split at h
      · cases h
      · rename_i l q hq
        obtain ⟨c1, rfl, m1, n1, -⟩ := ih (opK k) o ts l q hq
        obtain ⟨c2, rfl, m2, n2, h2⟩ := ih (.more k l) o q n r h
        refine ⟨c1 ++ c2, by rw [List.append_assoc], ?_, nadj_app n1 n2 (h2 k l rfl), fun k l e => by cases e⟩
        simp only [List.mem_append, not_or]
        exact ⟨m1, m2⟩
    | more k l =>
      match ts, h with
      | [], h =>
        rw [pP_more0] at h
        cases h
        exact ⟨[], rfl, by simp, trivial, fun k l _ t ht => by cases ht⟩
      | t :: q, h =>
        rw [pP_more] at h
        split at h
        · rename_i hh
          obtain ⟨o1, o2, o3⟩ := lev_op hh
          split at h
          · cases h
          · rename_i x r2 hx
            obtain ⟨c1, rfl, m1, n1, -⟩ := ih (opK k) o q x r2 hx
            obtain ⟨c2, rfl, m2, n2, h2⟩ := ih (.more k (.bin t l x)) o r2 n r h
            refine ⟨t :: (c1 ++ c2), by simp, ?_, nadj_cons o1 (nadj_app n1 n2 (h2 _ _ rfl)), fun _ _ _ => opHead_cons o1 o2⟩
            simp only [List.mem_append, List.mem_cons, not_or]
            exact ⟨Ne.symm o3, m1, m2⟩
        · cases h
          exact ⟨[], rfl, by simp, trivial, fun k l _ t ht => by cases ht⟩
    | un =>
      match ts, h with
      | [], h => rw [pP_un0] at h; cases h
      | t :: q, h =>
        rw [pP_un] at h
        by_cases h24 : 24 < o
        · rw [if_pos h24] at h; cases h
        · rw [if_neg h24] at h
          split at h
          · rename_i hh
            have ht : isC t = false ∧ t ≠ mark := by
              have hall : ∀ u ∈ preL, isC u = false ∧ u ≠ mark := by decide
              exact hall t (by simpa using hh)
            cases hx : pP f .un (o + 1) q with
            | none => rw [hx] at h; cases h
            | some x =>
              rw [hx] at h; cases h
              obtain ⟨c, rfl, hm, hn, -⟩ := ih .un (o + 1) q x.1 x.2 hx
              refine ⟨t :: c, rfl, ?_, nadj_cons ht.1 hn, fun k l e => by cases e⟩
              simp only [List.mem_cons, not_or]
              exact ⟨Ne.symm ht.2, hm⟩
          · split at h
            · rename_i h4
              subst h4
              split at h
              · cases h
              · rename_i x r2 hx
                obtain ⟨c, rfl, hm, hn, -⟩ := ih .asg (o + 1) q x r2 hx
                split at h
                · rename_i h5
                  cases h
                  have q2 : r2 = [41] :: r2.tail := by
                    cases r2 with
                    | nil => cases h5
                    | cons a b => cases h5; rfl
                  refine ⟨[40] :: (c ++ [[41]]), ?_, ?_, nadj_cons (by decide) (nadj_app hn trivial (opHead_cons (by decide) (by decide))), fun k l e => by cases e⟩
                  · conv => lhs; rw [q2]
                    simp
                  · simp only [List.mem_append, List.mem_cons, List.not_mem_nil, or_false, not_or]
                    exact ⟨by decide, hm, by decide⟩
                · cases h
            · split at h
              · rename_i h5
                cases h
                refine ⟨[t], rfl, ?_, trivial, fun k l e => by cases e⟩
                simp only [List.mem_singleton]
                rintro rfl
                exact absurd h5 (by decide)
              · split at h
                · rename_i h6
                  cases h
                  refine ⟨[t], rfl, ?_, trivial, fun k l e => by cases e⟩
                  simp only [List.mem_singleton]
                  rintro rfl
                  exact absurd h6 (by decide)
                · cases h
end Go.Proofs.YtbmnngliapmgfaaGreatDoor
namespace Go.Proofs.YtbmnngliapmgfaaGreatDoor
open Go.RowKit
set_option linter.unusedVariables false
set_option linter.unusedSimpArgs false
theorem tokXT_more : ∀ (f g : Nat) (s : Bs), s.length < f → s.length < g → tokXT f s = tokXT g s
  | 0, _, _, h, _ => by omega
  | _, 0, _, _, h => by omega
  | f + 1, g + 1, s, hf, hg => by
    rw [tokXT, tokXT]
    split
    · rfl
    · split
      · rfl
      · split
        · rfl
        · rename_i k hk
          obtain ⟨h0, h1⟩ := tokN_pos hk
          have := trimB_le (s.drop k)
          rw [List.length_drop] at this
          rw [tokXT_more f g (trimB (s.drop k)) (by omega) (by omega)]
theorem tokX_nil {s : Bs} (h : trimB s = []) : tokX s = [] := by
  unfold tokX
  rw [h, tokXT, if_pos rfl]
theorem tokX_step {s : Bs} (h : trimB s ≠ []) : tokX s = if isC (trimB s) = true ∧ cstN (trimB s) ≠ nameN (trimB s) then [mark] else match tokN (trimB s) with
    | none => [mark]
    | some k => (trimB s).take k :: tokX ((trimB s).drop k) := by
  have hl := trimB_le s
  unfold tokX
  rw [tokXT, if_neg h]
  split
  · rfl
  · cases hk : tokN (trimB s) with
    | none => rfl
    | some k =>
      obtain ⟨h0, h1⟩ := tokN_pos hk
      have h2 := trimB_le ((trimB s).drop k)
      dsimp only
      rw [List.length_drop] at *
      rw [tokXT_more s.length ((trimB s).length - k + 1) _ (by omega) (by omega)]
theorem dg_word {c : UInt8} (h : dg c < 16) : (isLt c || isDg c) = true := by
  unfold dg at h
  split at h
  · rename_i hd; rw [hd]; simp
  · split at h
    · rename_i hd; simp [isLt]; omega
    · split at h
      · rename_i hd; simp [isLt]; omega
      · omega
theorem dlen_name (b : Nat) (hb : b ≤ 16) : ∀ l : Bs, dlen b l ≤ nameN l
  | [] => Nat.le_refl _
  | c :: r => by
    rw [dlen, nameN]
    split
    · rw [if_pos (dg_word (by omega))]
      have := dlen_name b hb r
      omega
    · exact Nat.zero_le _
theorem cst_le_name (x : Bs) : cstN x ≤ nameN x := by
  unfold cstN
  rcases hb : base x with ⟨b, k⟩
  unfold base at hb
  split at hb
  · rename_i hh
    cases hb
    unfold hexB at hh
    split at hh
    · rename_i a y d q
      simp only [Bool.and_eq_true, Bool.or_eq_true, beq_iff_eq, decide_eq_true_eq] at hh
      obtain ⟨⟨rfl, hy⟩, -⟩ := hh
      have h1 : (isLt 48 || isDg 48) = true := by decide
      have h2 : (isLt y || isDg y) = true := by rcases hy with rfl | rfl <;> decide
      have := dlen_name 16 (by omega) (d :: q)
      show 2 + dlen 16 (d :: q) ≤ nameN (48 :: y :: d :: q)
      rw [nameN, if_pos h1, nameN, if_pos h2]
      omega
    · cases hh
  · split at hb
    · cases hb
      have := dlen_name 8 (by omega) x
      simpa using this
    · cases hb
      have := dlen_name 10 (by omega) x
      simpa using this
theorem name_at : ∀ (x : Bs) (j : Nat), j < nameN x → ∃ c r, x.drop j = c :: r ∧ (isLt c || isDg c) = true
  | [], j, h => by simp [nameN] at h
  | c :: r, 0, h => by
    rw [nameN] at h
    split at h
    · rename_i hc; exact ⟨c, r, rfl, hc⟩
    · omega
  | c :: r, j + 1, h => by
    rw [nameN] at h
    split at h
    · exact name_at r j (by omega)
    · omega
theorem take_head {c : UInt8} {r : Bs} {k : Nat} (h : 0 < k) : ∃ q, (c :: r).take k = c :: q := by
  obtain ⟨j, rfl⟩ : ∃ j, k = j + 1 := ⟨k - 1, by omega⟩
  exact ⟨r.take j, rfl⟩
theorem trim_word {c : UInt8} {r : Bs} (h : (isLt c || isDg c) = true) : trimB (c :: r) = c :: r := by
  unfold trimB
  rw [List.dropWhile_cons, if_neg]
  simp
  refine ⟨?_, ?_, ?_⟩ <;> (rintro rfl; revert h; decide)
/-- without a mark they are the tokens. -/
theorem toks_of_X : ∀ (n : Nat) (s : Bs), s.length ≤ n → mark ∉ tokX s → toks s = some (tokX s) := by
  intro n
  induction n with
  | zero =>
    intro s hs h
    obtain rfl : s = [] := List.length_eq_zero_iff.1 (by omega)
    rw [toks_nil (s := []) rfl, tokX_nil (s := []) rfl]
  | succ n ih =>
    intro s hs h
    by_cases he : trimB s = []
    · rw [toks_nil he, tokX_nil he]
    · rw [tokX_step he] at h ⊢
      rw [toks_step he]
      split at h
      · exact absurd (by simp) h
      · rename_i hc
        rw [if_neg hc]
        cases hk : tokN (trimB s) with
        | none => rw [hk] at h; exact absurd (by simp) h
        | some k =>
          rw [hk] at h
          obtain ⟨h0, h1⟩ := tokN_pos hk
          have hl := trimB_le s
          dsimp only at h ⊢
          simp only [List.mem_cons, not_or] at h
          rw [ih _ (by rw [List.length_drop]; omega) h.2]
          rfl
/-- tokens with no word right behind a constant are the document's. -/
theorem X_of_toks : ∀ (n : Nat) (s : Bs) (ts : List Bs), s.length ≤ n → toks s = some ts → nadj ts → tokX s = ts := by
  intro n
  induction n with
  | zero =>
    intro s ts hs h _
    obtain rfl : s = [] := List.length_eq_zero_iff.1 (by omega)
    rw [toks_nil (s := []) rfl] at h
    cases h
    exact tokX_nil rfl
  | succ n ih =>
    intro s ts hs h hn
    by_cases he : trimB s = []
    · rw [toks_nil he] at h
      cases h
      exact tokX_nil he
    · rw [toks_step he] at h
      cases hk : tokN (trimB s) with
      | none => rw [hk] at h; cases h
      | some k =>
        rw [hk] at h
        obtain ⟨h0, h1⟩ := tokN_pos hk
        have hl := trimB_le s
        dsimp only at h
        cases hr : toks ((trimB s).drop k) with
        | none => rw [hr] at h; cases h
        | some rest =>
          rw [hr] at h
          cases h
          have hn2 : nadj rest := by
            cases rest with
            | nil => trivial
            | cons u q => exact hn.2
          rw [tokX_step he, if_neg, hk]
          · dsimp only
            rw [ih _ rest (by rw [List.length_drop]; omega) hr hn2]
          rintro ⟨hc, hx⟩
          have hkc : k = cstN (trimB s) := by
            unfold tokN at hk
            rw [if_pos hc] at hk
            exact (Option.some.inj hk).symm
          have hlt : k < nameN (trimB s) := by have := cst_le_name (trimB s); omega
          obtain ⟨c, q, hd, hw⟩ := name_at _ k hlt
          rw [hd] at hr
          have ht : trimB (c :: q) = c :: q := trim_word hw
          rw [toks_step (by rw [ht]; simp), ht] at hr
          cases hk2 : tokN (c :: q) with
          | none => rw [hk2] at hr; cases hr
          | some k2 =>
            rw [hk2] at hr
            obtain ⟨p0, -⟩ := tokN_pos hk2
            dsimp only at hr
            cases hz : toks ((c :: q).drop k2) with
            | none => rw [hz] at hr; cases hr
            | some z =>
              rw [hz] at hr
              cases hr
              obtain ⟨q1, e1⟩ := take_head (c := c) (r := q) p0
              refine hn.1 ⟨?_, ?_⟩
              · cases hts : trimB s with
                | nil => exact absurd hts he
                | cons d q3 =>
                  rw [hts] at hc
                  obtain ⟨q4, e4⟩ := take_head (c := d) (r := q3) h0
                  rw [e4]; exact hc
              · rw [e1]
                simp only [Bool.or_eq_true] at hw
                exact hw.symm
/-- A TEXT HAS A TREE WHERE ITS TOKENS, AS THE DOCUMENT TAKES THEM, HAVE ONE. -/
theorem parsed_X (s : Bs) (n : Nd) : parsed s = some n ↔ s.length ≤ 256 ∧ ((tokX s = [] ∧ n = .num 0) ∨ (tokX s ≠ [] ∧ pP (20 * (tokX s).length + 15) .asg 0 (tokX s) = some (n, []))) := by
  constructor
  · intro h
    unfold parsed at h
    split at h
    · cases h
    · rename_i hl
      refine ⟨by omega, ?_⟩
      cases ht : toks s with
      | none => rw [ht] at h; cases h
      | some ts =>
        rw [ht] at h
        dsimp only at h
        by_cases he : ts = []
        · subst he
          rw [if_pos rfl] at h
          cases h
          exact .inl ⟨X_of_toks _ s [] (Nat.le_refl _) ht trivial, rfl⟩
        · rw [if_neg he] at h
          split at h
          · cases h
          · rename_i m r hm
            split at h
            · rename_i hr
              cases h
              subst hr
              obtain ⟨c, e, -, hn, -⟩ := pP_nadj _ _ _ _ _ _ hm
              rw [List.append_nil] at e
              subst e
              have hX := X_of_toks _ s ts (Nat.le_refl _) ht hn
              rw [hX]
              exact .inr ⟨he, hm⟩
            · cases h
  · rintro ⟨hl, ⟨h1, rfl⟩ | ⟨h1, h2⟩⟩
    · have ht := toks_of_X _ s (Nat.le_refl _) (by rw [h1]; simp)
      unfold parsed
      rw [if_neg (by omega), ht]
      dsimp only
      rw [if_pos h1]
    · obtain ⟨c, e, hm, -, -⟩ := pP_nadj _ _ _ _ _ _ h2
      rw [List.append_nil] at e
      have ht := toks_of_X _ s (Nat.le_refl _) (by rw [e]; exact hm)
      unfold parsed
      rw [if_neg (by omega), ht]
      dsimp only
      rw [if_neg h1, h2]
      rfl
end Go.Proofs.YtbmnngliapmgfaaGreatDoor
