/- How big nodes are. -/
import Derived.Test.YtoahgblgchmclaaPD
namespace Go.Proofs.Ytoahgblgchmclaa
set_option linter.unusedVariables false
set_option linter.unusedSimpArgs false
/-- a node of a text of at most so many tokens. -/
def Sm (n : Nd) : Prop := n.sets.length + n.words.length + n.redirs.length ≤ 1000 ∧ n.pats.length ≤ 1000 ∧ ∀ p ∈ n.pats, p.length ≤ 1000
def Sz (s t : S) : Prop := t.ts.length ≤ s.ts.length ∧ (s.ts.length ≤ 500 → (∀ n ∈ s.ns, Sm n) → ∀ n ∈ t.ns, Sm n)
theorem Sz.refl (s : S) : Sz s s := ⟨Nat.le_refl _, fun _ h => h⟩
theorem Sz.trans {s t u : S} (h : Sz s t) (k : Sz t u) : Sz s u := ⟨Nat.le_trans k.1 h.1, fun hl ha => k.2 (Nat.le_trans h.1 hl) (h.2 hl ha)⟩
theorem Sz.same {s t : S} (h : t.ts.length ≤ s.ts.length) (e : t.ns = s.ns) : Sz s t := ⟨h, fun _ ha => by rw [e]; exact ha⟩
theorem Sm.nd (k : Int) (ks : List Int) : Sm (nd k ks) := ⟨by simp [Go.Proofs.Ytoahgblgchmclaa.nd], by simp [Go.Proofs.Ytoahgblgchmclaa.nd], by simp [Go.Proofs.Ytoahgblgchmclaa.nd]⟩
theorem add_sz (s : S) (n : Nd) (h : s.ts.length ≤ 500 → Sm n) : Sz s (s.add n).2 := ⟨Nat.le_refl _, fun hl ha m hm => by
  have hm' : m ∈ s.ns ++ [n] := hm
  rw [List.mem_append, List.mem_singleton] at hm'
  rcases hm' with hm' | rfl
  · exact ha m hm'
  · exact h hl⟩
theorem adv_sz (s : S) : Sz s s.adv := .same (by show s.ts.tail.length ≤ _; rw [List.length_tail]; omega) rfl
theorem fail_sz (s : S) : Sz s s.fail := by
  unfold S.fail
  split
  · exact .same (by show (lastT s.ts).length ≤ _; unfold lastT; rw [List.length_drop]; omega) rfl
  · exact .refl _
theorem may_sz (s : S) (t : Bs) : Sz s (s.may t) := by unfold S.may; split; exact adv_sz s; exact .refl _
theorem need_sz (s : S) (t : Bs) : Sz s (s.need t) := by unfold S.need; split; exact adv_sz s; exact fail_sz _
theorem word_sz (s : S) : Sz s s.word.2 := by unfold S.word; split; exact adv_sz s; exact fail_sz _
theorem name_sz (s : S) : Sz s s.name.2 := by unfold S.name; split; exact adv_sz s; exact fail_sz _
theorem breaks_sz (s : S) : Sz s s.breaks := .same (by show (s.ts.dropWhile _).length ≤ _; exact (List.dropWhile_suffix _).length_le) rfl
theorem enter_sz (s : S) : Sz s s.enter := by
  unfold S.enter
  split
  · exact (fail_sz s).trans (.same (Nat.le_refl _) rfl)
  · exact .same (Nat.le_refl _) rfl
theorem leave_sz (s : S) : Sz s s.leave := .same (Nat.le_refl _) rfl
theorem fdOf_sz (s : S) : Sz s s.fdOf.2 := by unfold S.fdOf; split; exact adv_sz s; exact .refl _
theorem rword_sz (s : S) : Sz s s.rword.2 := by unfold S.rword; split; exact adv_sz s; exact word_sz _
theorem redir_sz (s : S) : Sz s s.redir.2 := (fdOf_sz s).trans ((adv_sz _).trans (rword_sz _))
theorem redirsG_sz : ∀ (k : Nat) (l : List Rd) (s : S), Sz s (redirsG k l s).2 ∧ (redirsG k l s).1.length ≤ l.length + k := by
  intro k
  induction k with
  | zero => intro l s; exact ⟨.refl _, Nat.le_refl _⟩
  | succ k ih =>
    intro l s
    unfold redirsG
    split
    · have := ih (l ++ [s.redir.1]) s.redir.2
      exact ⟨(redir_sz s).trans this.1, by have := this.2; rw [List.length_append, List.length_singleton] at this; omega⟩
    · exact ⟨.refl _, by show l.length ≤ _; omega⟩
theorem wordsG_sz : ∀ (k : Nat) (l : List Bs) (s : S), Sz s (wordsG k l s).2 ∧ (wordsG k l s).1.length ≤ l.length + k := by
  intro k
  induction k with
  | zero => intro l s; exact ⟨.refl _, Nat.le_refl _⟩
  | succ k ih =>
    intro l s
    unfold wordsG
    split
    · have := ih (l ++ [s.word.1]) s.word.2
      exact ⟨(word_sz s).trans this.1, by have := this.2; rw [List.length_append, List.length_singleton] at this; omega⟩
    · exact ⟨.refl _, by show l.length ≤ _; omega⟩
theorem patG_sz : ∀ (k : Nat) (l : List Bs) (s : S), Sz s (patG k l s).2 ∧ (patG k l s).1.length ≤ l.length + k := by
  intro k
  induction k with
  | zero => intro l s; exact ⟨.refl _, Nat.le_refl _⟩
  | succ k ih =>
    intro l s
    unfold patG
    split
    · have := ih (l ++ [s.adv.word.1]) s.adv.word.2
      exact ⟨((adv_sz s).trans (word_sz _)).trans this.1, by have := this.2; rw [List.length_append, List.length_singleton] at this; omega⟩
    · exact ⟨.refl _, by show l.length ≤ _; omega⟩
theorem simpG_sz : ∀ (k : Nat) (n : Nd) (s : S), Sz s (simpG k n s).2 ∧ (simpG k n s).1.sets.length + (simpG k n s).1.words.length + (simpG k n s).1.redirs.length ≤ n.sets.length + n.words.length + n.redirs.length + k ∧ (simpG k n s).1.pats = n.pats := by
  intro k
  induction k with
  | zero => intro n s; exact ⟨.refl _, Nat.le_refl _, rfl⟩
  | succ k ih =>
    intro n s
    unfold simpG
    split
    · obtain ⟨h1, h2, h3⟩ := ih { n with redirs := n.redirs ++ [s.redir.1] } s.redir.2
      exact ⟨(redir_sz s).trans h1, by dsimp only at h2; rw [List.length_append, List.length_singleton] at h2; omega, h3⟩
    · split
      · obtain ⟨h1, h2, h3⟩ := ih { n with sets := n.sets ++ [s.word.1] } s.word.2
        exact ⟨(word_sz s).trans h1, by dsimp only at h2; rw [List.length_append, List.length_singleton] at h2; omega, h3⟩
      · split
        · obtain ⟨h1, h2, h3⟩ := ih { n with words := n.words ++ [s.word.1] } s.word.2
          exact ⟨(word_sz s).trans h1, by dsimp only at h2; rw [List.length_append, List.length_singleton] at h2; omega, h3⟩
        · exact ⟨.refl _, by show n.sets.length + n.words.length + n.redirs.length ≤ _; omega, rfl⟩
theorem simple_sz (s : S) : Sz s s.simple.2 := by
  unfold S.simple
  obtain ⟨h1, h2, h3⟩ := simpG_sz s.ts.length (nd 1 []) s
  have h4 : Sz (simpG s.ts.length (nd 1 []) s).2 ((simpG s.ts.length (nd 1 []) s).2.orFail (simpG s.ts.length (nd 1 []) s).1) := by
    unfold S.orFail
    split
    · exact fail_sz _
    · exact .refl _
  refine ⟨Nat.le_trans h4.1 h1.1, fun hl ha m hm => ?_⟩
  have hm' : m ∈ ((simpG s.ts.length (nd 1 []) s).2.orFail (simpG s.ts.length (nd 1 []) s).1).ns ++ [(simpG s.ts.length (nd 1 []) s).1] := hm
  rw [List.mem_append, List.mem_singleton] at hm'
  rcases hm' with hm' | rfl
  · exact (h1.trans h4).2 hl ha m hm'
  · refine ⟨?_, by rw [h3]; simp [nd], by rw [h3]; simp [nd]⟩
    have : (nd 1 []).sets.length + (nd 1 []).words.length + (nd 1 []).redirs.length = 0 := rfl
    omega
theorem forIn_sz (s : S) : Sz s s.forIn.2 ∧ s.forIn.1.2.length ≤ s.ts.length := by
  unfold S.forIn
  dsimp only
  have h1 := breaks_sz s
  split
  · rename_i h
    obtain ⟨h2, h3⟩ := wordsG_sz s.breaks.ts.length [] s.breaks.adv
    exact ⟨(h1.trans ((adv_sz _).trans h2)).trans ((may_sz _ _).trans (breaks_sz _)), by have := h1.1; simp at h3; omega⟩
  · exact ⟨h1.trans ((may_sz _ _).trans (breaks_sz _)), Nat.zero_le _⟩
theorem caseHead_sz (s : S) : Sz s s.caseHead.2 := (need_sz _ _).trans ((word_sz _).trans ((breaks_sz _).trans ((need_sz _ _).trans (breaks_sz _))))
theorem patterns_sz (s : S) : Sz s s.patterns.2 ∧ s.patterns.1.length ≤ s.ts.length + 1 := by
  unfold S.patterns
  dsimp only
  have h1 := (may_sz s [40]).trans (word_sz _)
  obtain ⟨h2, h3⟩ := patG_sz (s.may [40]).word.2.ts.length [(s.may [40]).word.1] (s.may [40]).word.2
  exact ⟨(h1.trans h2).trans (need_sz _ _), by have := h1.1; simp at h3; omega⟩
section
variable {L : S → Int × S} (hL : ∀ s, Sz s (L s).2)
include hL
theorem listsG_sz : ∀ (ws : List Bs) (ks : List Int) (s : S), Sz s (listsG L ws ks s).2 := by
  intro ws
  induction ws with
  | nil => intro ks s; exact .refl _
  | cons w r ih => intro ks s; exact ((hL s).trans (need_sz _ _)).trans (ih _ _)
theorem branG_sz : ∀ (k : Nat) (w : Bs) (s : S), Sz s (branG L k w s).2 := by
  intro k
  induction k with
  | zero => intro w s; exact .refl _
  | succ k ih =>
    intro w s
    unfold branG
    dsimp only
    have h1 := ((need_sz s w).trans (hL _)).trans ((need_sz _ [116, 104, 101, 110]).trans (hL _))
    split
    · exact (h1.trans (ih _ _)).trans (add_sz _ _ fun _ => Sm.nd _ _)
    · split
      · exact h1.trans ((adv_sz _).trans (hL _))
      · exact h1
theorem caseList_sz (s : S) : Sz s (caseList L s).2 := by
  unfold caseList
  split
  · exact (breaks_sz s).trans (hL _)
  · exact breaks_sz s
theorem caseG_sz : ∀ (k : Nat) (ps : List (List Bs)) (ks : List Int) (s : S), Sz s (caseG L k ps ks s).2 ∧ (caseG L k ps ks s).1.1.length ≤ ps.length + k ∧ ∀ p ∈ (caseG L k ps ks s).1.1, p ∈ ps ∨ p.length ≤ s.ts.length + 1 := by
  intro k
  induction k with
  | zero => intro ps ks s; exact ⟨.refl _, Nat.le_refl _, fun p h => .inl h⟩
  | succ k ih =>
    intro ps ks s
    unfold caseG
    split
    · exact ⟨adv_sz _, by show ps.length ≤ _; omega, fun p h => .inl h⟩
    · dsimp only
      obtain ⟨h1, h2⟩ := patterns_sz s
      have h3 := h1.trans (caseList_sz hL s.patterns.2)
      split
      · have h4 := h3.trans ((adv_sz _).trans (breaks_sz _))
        obtain ⟨i1, i2, i3⟩ := ih (ps ++ [s.patterns.1]) (ks ++ [(caseList L s.patterns.2).1]) (caseList L s.patterns.2).2.adv.breaks
        refine ⟨h4.trans i1, by rw [List.length_append, List.length_singleton] at i2; omega, fun p hp => ?_⟩
        rcases i3 p hp with h | h
        · rw [List.mem_append, List.mem_singleton] at h
          rcases h with h | rfl
          · exact .inl h
          · exact .inr h2
        · have := h4.1; exact .inr (by omega)
      · refine ⟨h3.trans (need_sz _ _), by show (ps ++ [s.patterns.1]).length ≤ _; rw [List.length_append, List.length_singleton]; omega, fun p hp => ?_⟩
        have hp' : p ∈ ps ++ [s.patterns.1] := hp
        rw [List.mem_append, List.mem_singleton] at hp'
        rcases hp' with h | rfl
        · exact .inl h
        · exact .inr h2
theorem inner_sz (s : S) (k : Int) : Sz s (inner L s k).2 ∧ (s.ts.length ≤ 500 → (inner L s k).1.sets.length + (inner L s k).1.words.length ≤ 500 ∧ (inner L s k).1.pats.length ≤ 1000 ∧ ∀ p ∈ (inner L s k).1.pats, p.length ≤ 1000) := by
  have z : ∀ (k : Int) (ks : List Int), (nd k ks).sets.length + (nd k ks).words.length ≤ 500 ∧ (nd k ks).pats.length ≤ 1000 ∧ ∀ p ∈ (nd k ks).pats, p.length ≤ 1000 := fun k ks => ⟨by simp [nd], by simp [nd], by simp [nd]⟩
  unfold inner
  split
  · exact ⟨(need_sz _ _).trans (listsG_sz hL _ _ _), fun _ => z _ _⟩
  split
  · exact ⟨(need_sz _ _).trans (listsG_sz hL _ _ _), fun _ => z _ _⟩
  split
  · exact ⟨(branG_sz hL _ _ _).trans (need_sz _ _), fun _ => z _ _⟩
  split
  · exact ⟨(need_sz _ _).trans (listsG_sz hL _ _ _), fun _ => z _ _⟩
  split
  · exact ⟨(need_sz _ _).trans (listsG_sz hL _ _ _), fun _ => z _ _⟩
  split
  · have h1 := (need_sz s [102, 111, 114]).trans (name_sz _)
    obtain ⟨h2, h3⟩ := forIn_sz (s.need [102, 111, 114]).name.2
    refine ⟨h1.trans (h2.trans ((need_sz _ _).trans (listsG_sz hL _ _ _))), fun hl => ⟨?_, by simp, by simp⟩⟩
    have := h1.1
    show 0 + (s.need [102, 111, 114]).name.2.forIn.1.2.length ≤ 500
    omega
  split
  · have h1 := caseHead_sz s
    obtain ⟨h2, h3, h4⟩ := caseG_sz hL s.caseHead.2.ts.length [] [] s.caseHead.2
    refine ⟨h1.trans h2, fun hl => ⟨by simp, ?_, fun p hp => ?_⟩⟩
    · show (caseG L s.caseHead.2.ts.length [] [] s.caseHead.2).1.1.length ≤ _
      have := h1.1
      simp at h3
      omega
    · rcases h4 p hp with h | h
      · simp at h
      · have := h1.1; omega
  · exact ⟨fail_sz s, fun _ => z _ _⟩
theorem compound_sz (s : S) : Sz s (compound L s).2 := by
  unfold compound
  dsimp only
  obtain ⟨h1, h2⟩ := inner_sz hL s.enter (cKind s.enter.hd.text)
  obtain ⟨h3, h4⟩ := redirsG_sz (inner L s.enter (cKind s.enter.hd.text)).2.leave.ts.length [] (inner L s.enter (cKind s.enter.hd.text)).2.leave
  have h0 := enter_sz s
  have ha := (h0.trans h1).trans (leave_sz _)
  have hb := ha.trans h3
  refine ⟨hb.1, fun hl hall m hm => ?_⟩
  have hm' : m ∈ (inner L s.enter (cKind s.enter.hd.text)).2.leave.redirs.2.ns ++ [{ (inner L s.enter (cKind s.enter.hd.text)).1 with redirs := (inner L s.enter (cKind s.enter.hd.text)).2.leave.redirs.1 }] := hm
  rw [List.mem_append, List.mem_singleton] at hm'
  rcases hm' with hm' | rfl
  · exact hb.2 hl hall m hm'
  · obtain ⟨k1, k2, k3⟩ := h2 (Nat.le_trans h0.1 hl)
    refine ⟨?_, k2, k3⟩
    have h5 : (inner L s.enter (cKind s.enter.hd.text)).2.leave.redirs.1.length ≤ (inner L s.enter (cKind s.enter.hd.text)).2.leave.ts.length := by have h6 := h4; simp only [List.length_nil, Nat.zero_add] at h6; exact h6
    have := ha.1
    show (inner L s.enter (cKind s.enter.hd.text)).1.sets.length + (inner L s.enter (cKind s.enter.hd.text)).1.words.length + (inner L s.enter (cKind s.enter.hd.text)).2.leave.redirs.1.length ≤ 1000
    omega
theorem function_sz (s : S) : Sz s (function L s).2 :=
  (((enter_sz s).trans ((name_sz _).trans ((need_sz _ _).trans ((need_sz _ _).trans (breaks_sz _))))).trans (compound_sz hL _)).trans ((leave_sz _).trans (add_sz _ _ fun _ => ⟨by simp, by simp, by simp⟩))
theorem command_sz (s : S) : Sz s (command L s).2 := by
  unfold command
  split
  · split
    · exact function_sz hL s
    · exact simple_sz s
  · exact compound_sz hL s
theorem pipeG_sz : ∀ (k : Nat) (l : List Int) (s : S), Sz s (pipeG L k l s).2 := by
  intro k
  induction k with
  | zero => intro l s; exact .refl _
  | succ k ih =>
    intro l s
    unfold pipeG
    split
    · exact ((adv_sz s).trans ((breaks_sz _).trans (command_sz hL _))).trans (ih _ _)
    · exact .refl _
theorem pipe_sz (s : S) : Sz s (pipe L s).2 := by
  have h1 := ((may_sz s [33]).trans (command_sz hL _)).trans (pipeG_sz hL (command L (s.may [33])).2.ts.length [(command L (s.may [33])).1] _)
  have h2 : ∀ (t : S) (cs : List Int), Sz t (t.whole cs).2 := fun t cs => by
    unfold S.whole
    split
    · exact add_sz _ _ fun _ => Sm.nd _ _
    · exact .refl _
  have h3 : ∀ (t : S) (b : Bool) (i : Int), Sz t (t.notP b i).2 := fun t b i => by
    unfold S.notP
    split
    · exact add_sz _ _ fun _ => Sm.nd _ _
    · exact .refl _
  exact (h1.trans (h2 _ _)).trans (h3 _ _ _)
theorem andG_sz : ∀ (k : Nat) (i : Int) (s : S), Sz s (andG L k i s).2 := by
  intro k
  induction k with
  | zero => intro i s; exact .refl _
  | succ k ih =>
    intro i s
    unfold andG
    have h1 := (adv_sz s).trans ((breaks_sz _).trans (pipe_sz hL _))
    split
    · exact (h1.trans (add_sz _ _ fun _ => Sm.nd _ _)).trans (ih _ _)
    · split
      · exact (h1.trans (add_sz _ _ fun _ => Sm.nd _ _)).trans (ih _ _)
      · exact .refl _
theorem item_sz (s : S) : Sz s (item L s).2 := (pipe_sz hL s).trans (andG_sz hL _ _ _)
omit hL in
theorem backed_sz (s : S) (i : Int) : Sz s (backed s i).2 := by
  unfold backed
  split
  · exact (adv_sz s).trans (add_sz _ _ fun _ => Sm.nd _ _)
  · exact .refl _
omit hL in
theorem seps_sz (s : S) (b : Bool) : Sz s (s.seps b).2 := by
  unfold S.seps
  split
  · exact .refl _
  · split
    · exact adv_sz s
    · split
      · exact adv_sz s
      · exact .refl _
theorem itemsG_sz : ∀ (k : Nat) (l : List Int) (b : Bool) (s : S), Sz s (itemsG L k l b s).2 := by
  intro k
  induction k with
  | zero => intro l b s; exact .refl _
  | succ k ih =>
    intro l b s
    unfold itemsG
    dsimp only
    have h1 := ((item_sz hL s).trans (backed_sz _ (item L s).1)).trans ((seps_sz _ ((item L s).2.is [38])).trans (breaks_sz _))
    split
    · exact h1.trans (ih _ _ _)
    · exact h1
theorem list1_sz (s : S) : Sz s (list1 L s).2 := by
  have h1 := (breaks_sz s).trans (itemsG_sz hL s.breaks.ts.length [] false s.breaks)
  have h2 : ∀ (t : S) (l : List Int) (b : Bool), Sz t (t.seqs l b).2 := fun t l b => by
    unfold S.seqs
    split
    · exact .refl _
    · exact add_sz _ _ fun _ => Sm.nd _ _
  exact h1.trans (h2 _ _ _)
end
theorem listD_sz : ∀ (d : Nat) (s : S), Sz s (listD d s).2 := by
  intro d
  induction d with
  | zero => intro s; unfold listD; exact list1_sz (L := fun s => (0, s)) (fun s => .refl s) s
  | succ d ih => intro s; unfold listD; exact list1_sz ih s
theorem script_sz (s : S) : Sz s (script s) := by
  unfold script
  dsimp only
  have h1 : Sz s (if bItem s.breaks.hd then (listD 25 s.breaks).2 else s.breaks) := by
    split
    · exact (breaks_sz s).trans (listD_sz _ _)
    · exact breaks_sz s
  have h2 : ∀ t : S, Sz t (if t.hd.kind = 4 then t else t.fail) := fun t => by
    split
    · exact .refl _
    · exact fail_sz _
  exact h1.trans (h2 _)
theorem parseT_sm {ts : List Tk} (h : ts.length ≤ 500) : ∀ n ∈ (parseT ts).1, Sm n := by
  have := (script_sz ⟨ts, [], 0, 0, 0⟩).2 h (fun n hn => by simp at hn)
  unfold parseT
  dsimp only
  split
  · intro n hn; simp at hn
  · split
    · intro n hn; simp at hn
    · exact this
end Go.Proofs.Ytoahgblgchmclaa
