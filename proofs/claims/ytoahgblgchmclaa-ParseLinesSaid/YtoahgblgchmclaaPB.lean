/- Plain facts of the parser: what each step keeps, and how many nodes it may add. -/
import Derived.Test.YtoahgblgchmclaaPA
namespace Go.Proofs.Ytoahgblgchmclaa
set_option linter.unusedVariables false
set_option linter.unusedSimpArgs false
def sgTexts : List Bs := [[10], [124], [38], [59], [60], [62], [40], [41], [38, 38], [124, 124], [59, 59], [62, 62], [60, 38], [62, 38], [60, 62], [62, 124]]
def GTk (n : Nat) (t : Tk) : Prop := t.text ≠ [] ∧ t.text.length ≤ 4096 ∧ t.at_ ≤ n ∧
  ((t.kind = 2 ∧ sgTexts.contains t.text = true) ∨ (t.kind = 1 ∧ stopB (t.text.headD 0) = false) ∨ (t.kind = 3 ∧ ∃ c, t.text = [c] ∧ isDig c = true))
/-- the tokens that the lexer makes of a text of n bytes, and what is left of them. -/
def Good (n : Nat) : List Tk → Prop
  | [] => False
  | [t] => t.kind = 4 ∧ t.text = [] ∧ t.at_ ≤ n
  | t :: u :: r => GTk n t ∧ (t.kind = 3 → u.kind = 2 ∧ rdTexts.contains u.text = true) ∧ Good n (u :: r)
theorem Good.ne {n : Nat} {ts : List Tk} (h : Good n ts) : 0 < ts.length := by
  cases ts with
  | nil => exact h.elim
  | cons t r => simp
theorem GTk.kind {n : Nat} {t : Tk} (h : GTk n t) : t.kind = 1 ∨ t.kind = 2 ∨ t.kind = 3 := by
  rcases h.2.2.2 with h | h | h
  · exact .inr (.inl h.1)
  · exact .inl h.1
  · exact .inr (.inr h.1)
theorem Good.last {n : Nat} : ∀ {ts : List Tk}, Good n ts → Good n (lastT ts) ∧ (lastT ts).length = 1 := by
  intro ts
  induction ts with
  | nil => intro h; exact h.elim
  | cons t r ih =>
    intro h
    cases r with
    | nil => exact ⟨h, rfl⟩
    | cons u r =>
      have := ih h.2.2
      have e : lastT (t :: u :: r) = lastT (u :: r) := by
        unfold lastT
        rw [show (t :: u :: r).length - 1 = ((u :: r).length - 1) + 1 by simp]
        rfl
      rw [e]
      exact this
structure Inv (n : Nat) (s : S) : Prop where
  good : Good n s.ts
  one : ¬ s.err = 0 → s.ts.length = 1
  at_le : s.at_ ≤ n
def pot (s : S) : Int := s.ns.length + 20 * s.ts.length
/-- what stands next: the end, or a token and more behind it. -/
theorem Inv.next {n : Nat} {s : S} (h : Inv n s) : (s.hd.kind = 4 ∧ s.hd.text = [] ∧ s.hd.at_ ≤ n ∧ s.ts = [s.hd]) ∨ (s.err = 0 ∧ ∃ u r, s.ts = s.hd :: u :: r ∧ GTk n s.hd ∧ (s.hd.kind = 3 → u.kind = 2 ∧ rdTexts.contains u.text = true) ∧ Good n (u :: r)) := by
  obtain ⟨hg, h1, h2⟩ := h
  unfold S.hd
  match hs : s.ts, hg with
  | [t], hg => exact .inl ⟨hg.1, hg.2.1, hg.2.2, rfl⟩
  | t :: u :: r, hg => exact .inr ⟨by rw [hs] at h1; by_cases he : s.err = 0; exact he; have := h1 he; simp at this, u, r, rfl, hg⟩
theorem Inv.hdc' {n : Nat} {s : S} (hi : Inv n s) : s.ts = s.hd :: s.ts.tail := by
  rcases hi.next with ⟨_, _, _, h⟩ | ⟨_, u, r, h, _⟩
  · rw [h]; rfl
  · rw [h]; rfl
theorem Inv.kind {n : Nat} {s : S} (h : Inv n s) : s.hd.kind = 1 ∨ s.hd.kind = 2 ∨ s.hd.kind = 3 ∨ s.hd.kind = 4 := by
  rcases h.next with h | ⟨_, u, r, _, h, _⟩
  · exact .inr (.inr (.inr h.1))
  · rcases h.kind with h | h | h
    · exact .inl h
    · exact .inr (.inl h)
    · exact .inr (.inr (.inl h))
theorem Inv.hd_at {n : Nat} {s : S} (h : Inv n s) : s.hd.at_ ≤ n := by
  rcases h.next with h | ⟨_, u, r, _, h, _⟩
  · exact h.2.2.1
  · exact h.2.2.1
theorem Inv.hd_len {n : Nat} {s : S} (h : Inv n s) : s.hd.text.length ≤ 4096 := by
  rcases h.next with h | ⟨_, u, r, _, h, _⟩
  · rw [h.2.1]; simp
  · exact h.2.1
structure Keep (s t : S) : Prop where
  suf : t.ts <:+ s.ts
  pre : s.ns <+: t.ns
  err : ¬ s.err = 0 → t.err = s.err ∧ t.at_ = s.at_
theorem Keep.refl (s : S) : Keep s s := ⟨List.suffix_refl _, List.prefix_refl _, fun _ => ⟨rfl, rfl⟩⟩
theorem Keep.trans {s t u : S} (h : Keep s t) (k : Keep t u) : Keep s u :=
  ⟨k.suf.trans h.suf, h.pre.trans k.pre, fun e => by
    obtain ⟨e1, e2⟩ := h.err e
    obtain ⟨e3, e4⟩ := k.err (by rw [e1]; exact e)
    exact ⟨e3.trans e1, e4.trans e2⟩⟩
/-- a step that adds c at most to the bound, and o to what is open. -/
def St (c o : Int) (s t : S) : Prop := ∀ n, Inv n s → Inv n t ∧ Keep s t ∧ (t.opn : Int) = s.opn + o ∧ pot t ≤ pot s + c
theorem St.trans {a b c d : Int} {s t u : S} (h : St a b s t) (k : St c d t u) : St (a + c) (b + d) s u := fun n hi => by
  obtain ⟨h1, h2, h3, h4⟩ := h n hi
  obtain ⟨k1, k2, k3, k4⟩ := k n h1
  exact ⟨k1, h2.trans k2, by omega, by omega⟩
theorem St.le {a b c : Int} {s t : S} (h : St a b s t) (hc : a ≤ c) : St c b s t := fun n hi => by
  obtain ⟨h1, h2, h3, h4⟩ := h n hi
  exact ⟨h1, h2, h3, by omega⟩
theorem St.refl (s : S) : St 0 0 s s := fun n hi => ⟨hi, Keep.refl s, by omega, by omega⟩
theorem St.to {a b c d : Int} {s t u : S} (h : St a b s t) (k : St c d t u) {e o : Int} (he : a + c ≤ e) (ho : b + d = o) : St e o s u := by
  have := (h.trans k).le he
  rw [ho] at this
  exact this
theorem adv_st {s : S} (h : ¬ s.hd.text = []) : St (-20) 0 s s.adv := fun n hi => by
  rcases hi.next with ⟨_, h1, _⟩ | ⟨he, u, r, h1, h2, _, h3⟩
  · exact absurd h1 h
  · have e : s.adv.ts = u :: r := by unfold S.adv; rw [h1]; rfl
    refine ⟨⟨by rw [e]; exact h3, fun hh => absurd he hh, hi.at_le⟩, ⟨by rw [e, h1]; exact List.suffix_cons _ _, List.prefix_refl _, fun _ => ⟨rfl, rfl⟩⟩, ?_, ?_⟩
    · show (s.opn : Int) = _; omega
    · unfold pot
      rw [e, h1]
      show (s.ns.length : Int) + _ ≤ _
      simp only [List.length_cons]
      omega
theorem adv_kind {s : S} (h : ¬ s.hd.kind = 4) : St (-20) 0 s s.adv := fun n hi => by
  refine adv_st ?_ n hi
  rcases hi.next with ⟨h1, _⟩ | ⟨he, u, r, h1, h2, _, h3⟩
  · exact absurd h1 h
  · exact h2.1
theorem lastT_suf (ts : List Tk) : lastT ts <:+ ts := List.drop_suffix _ _
theorem fail_st (s : S) : St 0 0 s s.fail := fun n hi => by
  unfold S.fail
  split
  · rename_i he
    obtain ⟨h1, h2⟩ := hi.good.last
    refine ⟨⟨h1, fun _ => h2, hi.hd_at⟩, ⟨lastT_suf _, List.prefix_refl _, fun hh => absurd he hh⟩, by show (s.opn : Int) = _; omega, ?_⟩
    unfold pot
    have := hi.good.ne
    show (s.ns.length : Int) + 20 * ((lastT s.ts).length : Int) ≤ _
    rw [h2]
    omega
  · exact St.refl s n hi
theorem fail_err (s : S) : ¬ s.fail.err = 0 := by
  unfold S.fail
  split
  · show ¬ (if s.hd.kind = 4 then (23 : Int) else 17) = 0
    split <;> decide
  · assumption
theorem is_ne {s : S} {t : Bs} (ht : ¬ t = []) (h : s.is t = true) : ¬ s.hd.text = [] := by
  unfold S.is at h
  rw [beq_iff_eq] at h
  rw [h]
  exact ht
theorem adv_is {s : S} {t : Bs} (ht : ¬ t = []) (h : s.is t = true) : St (-20) 0 s s.adv := adv_st (is_ne ht h)
theorem need_st (s : S) {t : Bs} (ht : ¬ t = []) : St 0 0 s (s.need t) := by
  unfold S.need
  split
  · rename_i h; exact (adv_is ht h).le (by decide)
  · exact fail_st s
theorem need_is {s : S} {t : Bs} (ht : ¬ t = []) (h : s.is t = true) : St (-20) 0 s (s.need t) := by
  unfold S.need
  rw [if_pos h]
  exact adv_is ht h
theorem may_st (s : S) {t : Bs} (ht : ¬ t = []) : St 0 0 s (s.may t) := by
  unfold S.may
  split
  · rename_i h; exact (adv_is ht h).le (by decide)
  · exact St.refl s
theorem word_st (s : S) : St 0 0 s s.word.2 := by
  unfold S.word
  split
  · rename_i h; exact (adv_kind (by rw [h]; decide)).le (by decide)
  · exact fail_st s
theorem isNm_ne {t : Bs} (h : isNm t = true) : ¬ t = [] := by
  intro e
  rw [e] at h
  cases h
theorem name_st (s : S) : St 0 0 s s.name.2 := by
  unfold S.name
  split
  · rename_i h; exact (adv_st (isNm_ne h)).le (by decide)
  · exact fail_st s
theorem breaks_cons {s : S} (h : s.is [10] = true) : s.breaks = s.adv.breaks := by
  unfold S.is S.hd at h
  cases s with
  | mk ts ns o a e =>
    cases ts with
    | nil => cases h
    | cons t r =>
      have h' : (t.text == [10]) = true := h
      unfold S.breaks S.adv
      simp only [List.dropWhile_cons, h', if_true, List.tail_cons]
theorem breaks_stop {s : S} (h : s.is [10] = false) : s.breaks = s := by
  unfold S.is S.hd at h
  cases s with
  | mk ts ns o a e =>
    cases ts with
    | nil => rfl
    | cons t r =>
      have h' : (t.text == [10]) = false := h
      unfold S.breaks
      simp [List.dropWhile_cons, h']
theorem breaks_st (s : S) : St 0 0 s s.breaks := by
  have key : ∀ (k : Nat) (s : S), s.ts.length ≤ k → St 0 0 s s.breaks := by
    intro k
    induction k with
    | zero =>
      intro s hk n hi
      have := hi.good.ne
      omega
    | succ k ih =>
      intro s hk
      cases h : s.is [10] with
      | true =>
        rw [breaks_cons h]
        have h1 := adv_is (by decide) h
        intro n hi
        have h2 := hi.good.ne
        have h3 : s.adv.ts.length ≤ k := by show s.ts.tail.length ≤ k; rw [List.length_tail]; omega
        exact (h1.to (ih _ h3) (e := 0) (o := 0) (by decide) (by decide)) n hi
      | false => rw [breaks_stop h]; exact St.refl s
  exact key _ s (Nat.le_refl _)
theorem add_st (s : S) (n : Nd) : St 1 0 s (s.add n).2 := fun m hi => by
  refine ⟨⟨hi.good, hi.one, hi.at_le⟩, ⟨List.suffix_refl _, List.prefix_append _ _, fun _ => ⟨rfl, rfl⟩⟩, by show (s.opn : Int) = _; omega, ?_⟩
  unfold pot S.add
  simp only [List.length_append, List.length_cons, List.length_nil]
  omega
theorem enter_st (s : S) : St 0 1 s s.enter := fun n hi => by
  unfold S.enter
  split
  · obtain ⟨h1, h2, h3, h4⟩ := fail_st s n hi
    exact ⟨⟨h1.good, h1.one, h1.at_le⟩, ⟨h2.suf, h2.pre, h2.err⟩, by show ((s.opn + 1 : Nat) : Int) = _; omega, h4⟩
  · exact ⟨⟨hi.good, hi.one, hi.at_le⟩, ⟨List.suffix_refl _, List.prefix_refl _, fun _ => ⟨rfl, rfl⟩⟩, by show ((s.opn + 1 : Nat) : Int) = _; omega, by show (s.ns.length : Int) + 20 * (s.ts.length : Int) ≤ (s.ns.length : Int) + 20 * (s.ts.length : Int) + 0; omega⟩
theorem leave_st {s : S} (h : 0 < s.opn) : St 0 (-1) s s.leave := fun n hi =>
  ⟨⟨hi.good, hi.one, hi.at_le⟩, ⟨List.suffix_refl _, List.prefix_refl _, fun _ => ⟨rfl, rfl⟩⟩, by show ((s.opn - 1 : Nat) : Int) = _; omega, by show (s.ns.length : Int) + 20 * (s.ts.length : Int) ≤ (s.ns.length : Int) + 20 * (s.ts.length : Int) + 0; omega⟩
/-- behind a step that opened one. -/
theorem St.leave {c o : Int} {s t : S} (h : St c o s t) (ho : 1 ≤ o) : St c (o - 1) s t.leave := fun n hi => by
  obtain ⟨h1, h2, h3, h4⟩ := h n hi
  exact (h.to (leave_st (by omega)) (e := c) (o := o - 1) (by omega) (by omega)) n hi
theorem rd_ne {t : Bs} (h : rdTexts.contains t = true) : ¬ t = [] := by
  intro e
  rw [e] at h
  revert h
  decide
/-- where a redirection begins, its sign stands behind a number, or at once. -/
theorem bRedir_next {n : Nat} {s : S} (hi : Inv n s) (h : bRedir s.hd = true) : s.err = 0 ∧ (∃ u r, s.ts = s.hd :: u :: r) ∧
    ((s.hd.kind = 3 ∧ (∃ c, s.hd.text = [c] ∧ isDig c = true) ∧ s.adv.hd.kind = 2 ∧ rdTexts.contains s.adv.hd.text = true) ∨ (¬ s.hd.kind = 3 ∧ rdTexts.contains s.hd.text = true)) := by
  unfold bRedir at h
  rw [Bool.or_eq_true] at h
  rcases hi.next with ⟨h1, h2, _⟩ | ⟨he, u, r, h1, h2, h3, _⟩
  · rcases h with h | h
    · exact absurd h2 (rd_ne h)
    · rw [beq_iff_eq, h1] at h; cases h
  · refine ⟨he, ⟨u, r, h1⟩, ?_⟩
    by_cases hk : s.hd.kind = 3
    · left
      obtain ⟨k1, k2⟩ := h3 hk
      have e : s.adv.hd = u := by unfold S.adv S.hd; rw [h1]; rfl
      rw [e]
      refine ⟨hk, ?_, k1, k2⟩
      rcases h2.2.2.2 with ⟨k, _⟩ | ⟨k, _⟩ | ⟨_, k⟩
      · rw [hk] at k; cases k
      · rw [hk] at k; cases k
      · exact k
    · right
      refine ⟨hk, ?_⟩
      rcases h with h | h
      · exact h
      · rw [beq_iff_eq] at h; exact absurd h hk
theorem fdOf_st {s : S} : St 0 0 s s.fdOf.2 := by
  unfold S.fdOf
  split
  · rename_i h; exact (adv_kind (by rw [h]; decide)).le (by decide)
  · exact St.refl s
theorem rword_st (s : S) : St 0 0 s s.rword.2 := by
  unfold S.rword
  split
  · rename_i h; exact (adv_kind (by rw [h]; decide)).le (by decide)
  · exact word_st s
theorem fdOf_op {n : Nat} {s : S} (hi : Inv n s) (h : bRedir s.hd = true) : rdTexts.contains s.fdOf.2.hd.text = true := by
  obtain ⟨_, _, h⟩ := bRedir_next hi h
  unfold S.fdOf
  rcases h with ⟨h1, _, _, h4⟩ | ⟨h1, h2⟩
  · rw [if_pos h1]; exact h4
  · rw [if_neg h1]; exact h2
theorem redir_st {s : S} (h : bRedir s.hd = true) : St (-20) 0 s s.redir.2 := fun n hi => by
  have h1 := fdOf_op hi h
  have h2 := fdOf_st (s := s)
  have h3 := adv_st (rd_ne h1)
  have h4 := rword_st s.fdOf.2.adv
  exact ((h2.trans h3).to h4 (e := -20) (o := 0) (by decide) (by decide)) n hi
theorem redirsG_st : ∀ (k : Nat) (l : List Rd) (s : S), St 0 0 s (redirsG k l s).2 := by
  intro k
  induction k with
  | zero => intro l s; exact St.refl s
  | succ k ih =>
    intro l s
    unfold redirsG
    split
    · rename_i h; exact (redir_st h).to (ih _ _) (by decide) (by decide)
    · exact St.refl s
theorem redirs_st (s : S) : St 0 0 s s.redirs.2 := redirsG_st _ _ _
theorem simpG_st : ∀ (k : Nat) (n : Nd) (s : S), St 0 0 s (simpG k n s).2 := by
  intro k
  induction k with
  | zero => intro l s; exact St.refl s
  | succ k ih =>
    intro l s
    unfold simpG
    split
    · rename_i h; exact (redir_st h).to (ih _ _) (by decide) (by decide)
    · split
      · exact (word_st s).to (ih _ _) (by decide) (by decide)
      · split
        · exact (word_st s).to (ih _ _) (by decide) (by decide)
        · exact St.refl s
theorem orFail_st (s : S) (n : Nd) : St 0 0 s (s.orFail n) := by
  unfold S.orFail
  split
  · exact fail_st s
  · exact St.refl s
theorem simple_st (s : S) : St 1 0 s s.simple.2 := by
  unfold S.simple
  exact ((simpG_st _ _ _).trans (orFail_st _ _)).to (add_st _ _) (by decide) (by decide)
theorem wordsG_st : ∀ (k : Nat) (l : List Bs) (s : S), St 0 0 s (wordsG k l s).2 := by
  intro k
  induction k with
  | zero => intro l s; exact St.refl s
  | succ k ih =>
    intro l s
    unfold wordsG
    split
    · exact (word_st s).to (ih _ _) (by decide) (by decide)
    · exact St.refl s
theorem forIn_st (s : S) : St 0 0 s s.forIn.2 := by
  unfold S.forIn
  dsimp only
  have h1 := breaks_st s
  split
  · rename_i h
    have h2 := (adv_is (by decide) h).trans (wordsG_st s.breaks.ts.length [] s.breaks.adv)
    exact ((h1.trans h2).trans (may_st _ (by decide))).to (breaks_st _) (by decide) (by decide)
  · exact (h1.trans (may_st _ (by decide))).to (breaks_st _) (by decide) (by decide)
theorem patG_st : ∀ (k : Nat) (l : List Bs) (s : S), St 0 0 s (patG k l s).2 := by
  intro k
  induction k with
  | zero => intro l s; exact St.refl s
  | succ k ih =>
    intro l s
    unfold patG
    split
    · rename_i h; exact ((adv_is (by decide) h).trans (word_st _)).to (ih _ _) (by decide) (by decide)
    · exact St.refl s
theorem patterns_st (s : S) : St 0 0 s s.patterns.2 := by
  unfold S.patterns
  exact (((may_st s (by decide)).trans (word_st _)).trans (patG_st _ _ _)).to (need_st _ (by decide)) (by decide) (by decide)
theorem cKind_ne {t : Bs} (h : ¬ cKind t = 0) : ¬ t = [] := by
  intro e
  rw [e] at h
  exact h (by decide)
/-- what a list may be. -/
def Lst (L : S → Int × S) : Prop := ∀ s, St 5 0 s (L s).2
section
variable {L : S → Int × S} (hL : Lst L)
include hL
theorem lists_one (w : Bs) (ks : List Int) (s : S) (hw : ¬ w = []) : St 5 0 s (listsG L [w] ks s).2 := by
  unfold listsG listsG
  exact (hL s).to (need_st _ hw) (by decide) (by decide)
theorem lists_two (w x : Bs) (ks : List Int) (s : S) (hw : ¬ w = []) (hx : ¬ x = []) : St 10 0 s (listsG L [w, x] ks s).2 := by
  unfold listsG
  exact ((hL s).trans (need_st _ hw)).to (lists_one hL x _ _ hx) (by decide) (by decide)
theorem branG_st : ∀ (k : Nat) (w : Bs) (s : S), ¬ w = [] → s.is w = true → St 0 0 s (branG L k w s).2 := by
  intro k
  induction k with
  | zero => intro w s _ _; exact St.refl s
  | succ k ih =>
    intro w s hw hs
    unfold branG
    dsimp only
    have h1 := (((need_is hw hs).trans (hL _)).trans (need_st _ (t := [116, 104, 101, 110]) (by decide))).to (hL _) (e := -10) (o := 0) (by decide) (by decide)
    split
    · rename_i h
      exact (h1.trans (ih _ _ (by decide) h)).to (add_st _ _) (by decide) (by decide)
    · split
      · rename_i h
        exact (h1.trans (adv_is (by decide) h)).to (hL _) (by decide) (by decide)
      · exact h1.le (by decide)
theorem caseList_st (s : S) : St 5 0 s (caseList L s).2 := by
  unfold caseList
  split
  · exact (breaks_st s).to (hL _) (by decide) (by decide)
  · exact (breaks_st s).le (by decide)
theorem caseG_st : ∀ (k : Nat) (ps : List (List Bs)) (ks : List Int) (s : S), St 5 0 s (caseG L k ps ks s).2 := by
  intro k
  induction k with
  | zero => intro ps ks s; exact (St.refl s).le (by decide)
  | succ k ih =>
    intro ps ks s
    unfold caseG
    split
    · rename_i h; exact (adv_is (by decide) h).le (by decide)
    · dsimp only
      have h1 := (patterns_st s).trans (caseList_st hL s.patterns.2)
      split
      · rename_i h
        exact ((h1.trans (adv_is (by decide) h)).trans (breaks_st _)).to (ih _ _ _) (by decide) (by decide)
      · exact h1.to (need_st _ (by decide)) (by decide) (by decide)
omit hL in
theorem caseHead_st (s : S) : St 0 0 s s.caseHead.2 := by
  unfold S.caseHead
  exact ((((need_st s (by decide)).trans (word_st _)).trans (breaks_st _)).trans (need_st _ (by decide))).to (breaks_st _) (by decide) (by decide)
omit hL in
theorem caseHead_is {s : S} (h : s.is [99, 97, 115, 101] = true) : St (-20) 0 s s.caseHead.2 := by
  unfold S.caseHead
  exact ((((need_is (by decide) h).trans (word_st _)).trans (breaks_st _)).trans (need_st _ (by decide))).to (breaks_st _) (by decide) (by decide)
theorem inner_st (s : S) : St 0 0 s (inner L s (cKind s.hd.text)).2 := by
  unfold cKind
  have hi : ∀ t : Bs, s.hd.text = t → s.is t = true := fun t h => by unfold S.is; rw [h]; exact beq_self_eq_true t
  split
  · rename_i h
    simp only [inner, Int.reduceEq, ↓reduceIte]
    exact (need_is (by decide) (hi _ h)).to (lists_one hL _ _ _ (by decide)) (by decide) (by decide)
  split
  · rename_i h
    simp only [inner, Int.reduceEq, ↓reduceIte]
    exact (need_is (by decide) (hi _ h)).to (lists_one hL _ _ _ (by decide)) (by decide) (by decide)
  split
  · rename_i h
    simp only [inner, Int.reduceEq, ↓reduceIte]
    exact (branG_st hL _ _ _ (by decide) (hi _ h)).to (need_st _ (by decide)) (by decide) (by decide)
  split
  · rename_i h
    simp only [inner, Int.reduceEq, ↓reduceIte]
    exact (need_is (by decide) (hi _ h)).to (lists_two hL _ _ _ _ (by decide) (by decide)) (by decide) (by decide)
  split
  · rename_i h
    simp only [inner, Int.reduceEq, ↓reduceIte]
    exact (need_is (by decide) (hi _ h)).to (lists_two hL _ _ _ _ (by decide) (by decide)) (by decide) (by decide)
  split
  · rename_i h
    simp only [inner, Int.reduceEq, ↓reduceIte]
    exact ((((need_is (by decide) (hi _ h)).trans (name_st _)).trans (forIn_st _)).trans (need_st _ (by decide))).to (lists_one hL _ _ _ (by decide)) (by decide) (by decide)
  split
  · rename_i h
    simp only [inner, Int.reduceEq, ↓reduceIte]
    exact (caseHead_is (hi _ h)).to (caseG_st hL _ _ _ _) (by decide) (by decide)
  · simp only [inner, Int.reduceEq, ↓reduceIte]
    exact fail_st s
theorem compound_st (s : S) : St 1 0 s (compound L s).2 := by
  unfold compound
  have h1 := ((enter_st s).trans (inner_st hL s.enter)).leave (by decide)
  exact (h1.trans (redirs_st _)).to (add_st _ _) (by decide) (by decide)
theorem function_st (s : S) : St 2 0 s (function L s).2 := by
  unfold function
  have h1 := (((((enter_st s).trans (name_st _)).trans (need_st _ (t := [40]) (by decide))).trans (need_st _ (t := [41]) (by decide))).trans (breaks_st _)).trans (compound_st hL _)
  exact (h1.leave (by decide)).to (add_st _ _) (by decide) (by decide)
theorem command_st (s : S) : St 2 0 s (command L s).2 := by
  unfold command
  split
  · split
    · exact function_st hL s
    · exact (simple_st s).le (by decide)
  · exact (compound_st hL s).le (by decide)
theorem pipeG_st : ∀ (k : Nat) (l : List Int) (s : S), St 0 0 s (pipeG L k l s).2 := by
  intro k
  induction k with
  | zero => intro l s; exact St.refl s
  | succ k ih =>
    intro l s
    unfold pipeG
    split
    · rename_i h; exact (((adv_is (by decide) h).trans (breaks_st _)).trans (command_st hL _)).to (ih _ _) (by decide) (by decide)
    · exact St.refl s
omit hL in
theorem whole_st (s : S) (l : List Int) : St 1 0 s (s.whole l).2 := by
  unfold S.whole
  split
  · exact add_st _ _
  · exact (St.refl s).le (by decide)
omit hL in
theorem notP_st (s : S) (b : Bool) (i : Int) : St 1 0 s (s.notP b i).2 := by
  unfold S.notP
  split
  · exact add_st _ _
  · exact (St.refl s).le (by decide)
theorem pipe_st (s : S) : St 4 0 s (pipe L s).2 := by
  unfold pipe
  exact ((((may_st s (t := [33]) (by decide)).trans (command_st hL _)).trans (pipeG_st hL _ _ _)).trans (whole_st _ _)).to (notP_st _ _ _) (by decide) (by decide)
theorem andG_st : ∀ (k : Nat) (i : Int) (s : S), St 0 0 s (andG L k i s).2 := by
  intro k
  induction k with
  | zero => intro i s; exact St.refl s
  | succ k ih =>
    intro i s
    unfold andG
    split
    · rename_i h; exact ((((adv_is (by decide) h).trans (breaks_st _)).trans (pipe_st hL _)).trans (add_st _ _)).to (ih _ _) (by decide) (by decide)
    · split
      · rename_i h; exact ((((adv_is (by decide) h).trans (breaks_st _)).trans (pipe_st hL _)).trans (add_st _ _)).to (ih _ _) (by decide) (by decide)
      · exact St.refl s
theorem item_st (s : S) : St 4 0 s (item L s).2 := by
  unfold item
  exact (pipe_st hL s).to (andG_st hL _ _ _) (by decide) (by decide)
omit hL in
theorem backed_st (s : S) (i : Int) : St 0 0 s (backed s i).2 := by
  unfold backed
  split
  · rename_i h; exact (adv_is (by decide) h).to (add_st _ _) (by decide) (by decide)
  · exact St.refl s
omit hL in
theorem seps_st (s : S) (b : Bool) : St 0 0 s (s.seps b).2 := by
  unfold S.seps
  split
  · exact St.refl s
  · split
    · rename_i h; exact (adv_is (by decide) h).le (by decide)
    · split
      · rename_i h; exact (adv_is (by decide) h).le (by decide)
      · exact St.refl s
omit hL in
/-- a separator costs what an item may add. -/
theorem seps_more (s : S) (i : Int) (h : ((backed s i).2.seps (s.is [38])).1 = true) : St (-19) 0 s ((backed s i).2.seps (s.is [38])).2 := by
  unfold backed at *
  cases hb : s.is [38] with
  | true =>
    rw [hb] at h
    simp only [if_true]
    unfold S.seps
    rw [if_pos rfl]
    exact (adv_is (by decide) hb).to (add_st _ _) (by decide) (by decide)
  | false =>
    rw [hb] at h
    simp only [Bool.false_eq_true, if_false] at h ⊢
    unfold S.seps at h ⊢
    rw [if_neg (by decide)] at h ⊢
    split at h
    · rename_i h1; rw [if_pos h1]; exact (adv_is (by decide) h1).le (by decide)
    · split at h
      · rename_i h0 h1; rw [if_neg h0, if_pos h1]; exact (adv_is (by decide) h1).le (by decide)
      · cases h
theorem itemsG_st : ∀ (k : Nat) (l : List Int) (b : Bool) (s : S), St 4 0 s (itemsG L k l b s).2 := by
  intro k
  induction k with
  | zero => intro l b s; exact (St.refl s).le (by decide)
  | succ k ih =>
    intro l b s
    unfold itemsG
    dsimp only
    have h1 := item_st hL s
    split
    · rename_i h
      rw [Bool.and_eq_true] at h
      exact ((h1.trans (seps_more _ _ h.1)).trans (breaks_st _)).to (ih _ _ _) (by decide) (by decide)
    · exact ((h1.trans (backed_st _ _)).trans (seps_st _ _)).to (breaks_st _) (by decide) (by decide)
omit hL in
theorem seqs_st (s : S) (l : List Int) (b : Bool) : St 1 0 s (s.seqs l b).2 := by
  unfold S.seqs
  split
  · exact (St.refl s).le (by decide)
  · exact add_st _ _
theorem list1_st : Lst (list1 L) := by
  intro s
  unfold list1
  exact (((breaks_st s).trans (itemsG_st hL _ _ _ _))).to (seqs_st _ _ _) (by decide) (by decide)
end
theorem listD_st : ∀ d, Lst (listD d) := by
  intro d
  induction d with
  | zero => intro s; unfold listD; exact list1_st (L := fun s => (0, s)) (fun s => (St.refl s).le (by decide)) s
  | succ d ih => intro s; unfold listD; exact list1_st ih s
theorem script_st (s : S) : St 5 0 s (script s) := by
  unfold script
  dsimp only
  have h : St 5 0 s (if bItem s.breaks.hd = true then (listD 25 s.breaks).2 else s.breaks) := by
    split
    · exact (breaks_st s).to (listD_st 25 _) (by decide) (by decide)
    · exact (breaks_st s).le (by decide)
  revert h
  generalize (if bItem s.breaks.hd = true then (listD 25 s.breaks).2 else s.breaks) = t
  intro h
  split
  · exact h
  · exact h.to (fail_st _) (by decide) (by decide)
end Go.Proofs.Ytoahgblgchmclaa
