/- Two runs of the parser side by side: a text alone, and the same with more ahead of it and behind it: the words that read tokens. -/
import Derived.Test.YtoahgblgchmclaaPD
namespace Go.Proofs.Ytoahgblgchmclaa
set_option linter.unusedVariables false
set_option linter.unusedSimpArgs false
def mvT (k : Nat) (t : Tk) : Tk := ⟨t.kind, t.text, t.at_ + k⟩
def sI (m : Nat) (i : Int) : Int := if i = -1 then -1 else i + m
def shN (m : Nat) (n : Nd) : Nd := { n with kids := n.kids.map (sI m) }
/-- what is more: places, nodes, tokens; whether these are an end. -/
structure Ctx where
  k : Nat
  pre : List Nd
  h : Tk
  r : List Tk
  q : Bool
def Ctx.ok (c : Ctx) : Prop := (c.q = true ∧ c.h.kind = 4 ∧ c.h.text = []) ∨ (c.q = false ∧ c.h.kind = 2 ∧ c.h.text = [10])
def Ctx.m (c : Ctx) : Nat := c.pre.length
structure Tw (c : Ctx) (s t : S) : Prop where
  ts : t.ts = s.ts.dropLast.map (mvT c.k) ++ c.h :: c.r
  ns : t.ns = c.pre ++ s.ns.map (shN c.m)
  opn : t.opn = s.opn
  e1 : s.err = 0
  e2 : t.err = 0
theorem St.fin {a o : Int} {s t : S} {n : Nat} (h : St a o s t) (hi : Inv n s) (h4 : s.hd.kind = 4) : t.hd.kind = 4 := by
  have hit := (h n hi).1
  have hs := (h n hi).2.1.suf
  rcases hi.next with ⟨_, _, _, h1⟩ | ⟨_, u, r, _, hg, _⟩
  · rw [h1] at hs
    have hl := hs.length_le
    have hn := hit.good.ne
    have he : t.ts = [s.hd] := List.IsSuffix.eq_of_length hs (by simp at hl ⊢; omega)
    have : t.hd = s.hd := by show t.ts.headD endT = _; rw [he]; rfl
    rw [this]; exact h4
  · exfalso
    rcases hg.kind with k | k | k <;> rw [k] at h4 <;> cases h4
theorem St.lt {a o : Int} {s t : S} {n : Nat} (h : St a o s t) (ha : a < 0) (hi : Inv n s) : t.ts.length < s.ts.length := by
  obtain ⟨_, h2, _, h4⟩ := h n hi
  have := h2.pre.length_le
  unfold pot at h4
  omega
theorem St.len {a o : Int} {s t : S} {n : Nat} (h : St a o s t) (hi : Inv n s) : t.ts.length ≤ s.ts.length := (h n hi).2.1.suf.length_le
theorem Inv.text {n : Nat} {s : S} (hi : Inv n s) (h : ¬ s.hd.text = []) : ¬ s.hd.kind = 4 := by
  rcases hi.next with ⟨_, h1, _⟩ | ⟨_, u, r, _, hg, _⟩
  · exact absurd h1 h
  · intro h4
    rcases hg.kind with k | k | k <;> rw [k] at h4 <;> cases h4
theorem Inv.empty {n : Nat} {s : S} (hi : Inv n s) (h : s.hd.kind = 4) : s.hd.text = [] := by
  rcases hi.next with ⟨_, h1, _⟩ | ⟨_, u, r, _, hg, _⟩
  · exact h1
  · rcases hg.kind with k | k | k <;> rw [k] at h <;> cases h
section
variable {c : Ctx} (hc : c.ok) {n : Nat} {s t : S}
include hc
omit hc in
theorem Tw.len (h : Tw c s t) (hi : Inv n s) : s.ts.length ≤ t.ts.length := by
  have := hi.good.ne
  rw [h.ts, List.length_append, List.length_map, List.length_dropLast, List.length_cons]
  omega
omit hc in
theorem Tw.hd (h : Tw c s t) (hi : Inv n s) : (s.hd.kind = 4 ∧ s.hd.text = [] ∧ t.ts = c.h :: c.r ∧ t.hd = c.h) ∨ (¬ s.hd.kind = 4 ∧ t.hd = mvT c.k s.hd ∧ Tw c s.adv t.adv) := by
  have ht := h.ts
  rcases hi.next with ⟨h4, hx, _, h1⟩ | ⟨he, u, r, h1, hg, _⟩
  · left
    rw [h1] at ht
    have ht' : t.ts = c.h :: c.r := ht
    exact ⟨h4, hx, ht', by show t.ts.headD endT = _; rw [ht']; rfl⟩
  · right
    rw [h1, List.dropLast_cons_cons, List.map_cons, List.cons_append] at ht
    refine ⟨hi.text hg.1, by show t.ts.headD endT = _; rw [ht]; rfl, ⟨?_, h.ns, h.opn, h.e1, h.e2⟩⟩
    show t.ts.tail = s.ts.tail.dropLast.map _ ++ _
    rw [ht, h1]; rfl
theorem Tw.view {β : Type} (h : Tw c s t) (hi : Inv n s) (p : Int → Bs → β) (hp : p 2 [10] = p 4 []) : p t.hd.kind t.hd.text = p s.hd.kind s.hd.text := by
  rcases h.hd hi with ⟨h1, h2, _, h3⟩ | ⟨_, h3, _⟩
  · rw [h3, h1, h2]
    rcases hc with ⟨_, a, b⟩ | ⟨_, a, b⟩
    · rw [a, b]
    · rw [a, b]; exact hp
  · rw [h3]; rfl
theorem Tw.isEq (h : Tw c s t) (hi : Inv n s) {w : Bs} (h1 : ¬ w = []) (h2 : ¬ w = [10]) : t.is w = s.is w := by
  refine h.view hc hi (fun _ x => x == w) ?_
  rw [show (([10] : Bs) == w) = false from beq_eq_false_iff_ne.2 (fun e => h2 e.symm), show (([] : Bs) == w) = false from beq_eq_false_iff_ne.2 (fun e => h1 e.symm)]
omit hc in
theorem Tw.adv (h : Tw c s t) (hi : Inv n s) (hk : ¬ s.hd.kind = 4) : Tw c s.adv t.adv := by
  rcases h.hd hi with ⟨h1, _⟩ | ⟨_, _, h3⟩
  · exact absurd h1 hk
  · exact h3
omit hc in
theorem Tw.hdn (h : Tw c s t) (hi : Inv n s) (hk : ¬ s.hd.kind = 4) : t.hd = mvT c.k s.hd := by
  rcases h.hd hi with ⟨h1, _⟩ | ⟨_, h2, _⟩
  · exact absurd h1 hk
  · exact h2
omit hc in
theorem Inv.isN (hi : Inv n s) {w : Bs} (h1 : ¬ w = []) (h : s.is w = true) : ¬ s.hd.kind = 4 := hi.text (is_ne h1 h)
omit hc in
theorem Tw.isT (h : Tw c s t) (hi : Inv n s) {w : Bs} (h1 : ¬ w = []) (hw : s.is w = true) : t.is w = true ∧ Tw c s.adv t.adv := by
  have hk := hi.isN h1 hw
  refine ⟨?_, h.adv hi hk⟩
  unfold S.is at hw ⊢
  rw [h.hdn hi hk]; exact hw
omit hc in
theorem Tw.need (h : Tw c s t) (hi : Inv n s) {w : Bs} (h1 : ¬ w = []) (he : (s.need w).err = 0) : Tw c (s.need w) (t.need w) := by
  obtain ⟨h2, h3⟩ := need_ok he
  obtain ⟨h4, h5⟩ := h.isT hi h1 h2
  rw [h3]
  unfold S.need
  rw [if_pos h4]
  exact h5
theorem Tw.may (h : Tw c s t) (hi : Inv n s) {w : Bs} (h1 : ¬ w = []) (h2 : ¬ w = [10]) : Tw c (s.may w) (t.may w) := by
  unfold S.may
  rw [h.isEq hc hi h1 h2]
  split
  · rename_i hw; exact (h.isT hi h1 hw).2
  · exact h
theorem Tw.k1 (h : Tw c s t) (hi : Inv n s) : (t.hd.kind = 1) = (s.hd.kind = 1) := h.view hc hi (fun k _ => k = 1) (by simp)
theorem Tw.k3 (h : Tw c s t) (hi : Inv n s) : (t.hd.kind = 3) = (s.hd.kind = 3) := h.view hc hi (fun k _ => k = 3) (by simp)
theorem Tw.word (h : Tw c s t) (hi : Inv n s) (he : s.word.2.err = 0) : Tw c s.word.2 t.word.2 ∧ t.word.1 = s.word.1 ∧ ¬ s.hd.kind = 4 ∧ s.word.2 = s.adv := by
  unfold S.word at *
  by_cases h1 : s.hd.kind = 1
  · have h2 : t.hd.kind = 1 := by rw [h.k1 hc hi]; exact h1
    have hk : ¬ s.hd.kind = 4 := by rw [h1]; decide
    rw [if_pos h1, if_pos h2]
    exact ⟨h.adv hi hk, by rw [h.hdn hi hk]; rfl, hk, rfl⟩
  · rw [if_neg h1] at he
    exact (fail_no he).elim
theorem Tw.name (h : Tw c s t) (hi : Inv n s) (he : s.name.2.err = 0) : Tw c s.name.2 t.name.2 ∧ t.name.1 = s.name.1 := by
  unfold S.name at *
  cases h1 : isNm s.hd.text with
  | true =>
    have h2 : isNm t.hd.text = true := by rw [h.view hc hi (fun _ x => isNm x) (by decide)]; exact h1
    have hk : ¬ s.hd.kind = 4 := hi.text (isNm_ne h1)
    rw [if_pos rfl, if_pos h2]
    exact ⟨h.adv hi hk, by rw [h.hdn hi hk]; rfl⟩
  | false =>
    rw [h1, if_neg (by decide)] at he
    exact (fail_no he).elim
theorem Tw.breaks (h : Tw c s t) (hi : Inv n s) (hp : c.q = true ∨ ¬ s.breaks.hd.kind = 4) : Tw c s.breaks t.breaks := by
  have key : ∀ (k : Nat) (s t : S), s.ts.length ≤ k → Inv n s → Tw c s t → (c.q = true ∨ ¬ s.breaks.hd.kind = 4) → Tw c s.breaks t.breaks := by
    intro k
    induction k with
    | zero => intro s t hk hi; have := hi.good.ne; omega
    | succ k ih =>
      intro s t hk hi h hp
      cases h1 : s.is [10] with
      | true =>
        obtain ⟨h2, h3⟩ := h.isT hi (by decide) h1
        rw [breaks_cons h1, breaks_cons h2]
        rw [breaks_cons h1] at hp
        have hl := (adv_is (by decide) h1).lt (by decide) hi
        exact ih _ _ (by omega) ((adv_is (by decide) h1) n hi).1 h3 hp
      | false =>
        rw [breaks_stop h1] at hp ⊢
        have h2 : t.is [10] = false := by
          rcases h.hd hi with ⟨h4, _, _, h5⟩ | ⟨_, h5, _⟩
          · rcases hp with hq | hp
            · rcases hc with ⟨_, _, b⟩ | ⟨a, _⟩
              · unfold S.is; rw [h5, b]; decide
              · rw [a] at hq; cases hq
            · exact absurd h4 hp
          · unfold S.is at h1 ⊢
            rw [h5]; exact h1
        rw [breaks_stop h2]
        exact h
  exact key _ s t (Nat.le_refl _) hi h hp
omit hc in
theorem Tw.add (h : Tw c s t) {x y : Nd} (hx : y = shN c.m x) : Tw c (s.add x).2 (t.add y).2 ∧ (t.add y).1 = sI c.m (s.add x).1 := by
  subst hx
  refine ⟨⟨h.ts, ?_, h.opn, h.e1, h.e2⟩, ?_⟩
  · show t.ns ++ _ = _ ++ (s.ns ++ _).map _
    rw [h.ns, List.map_append, List.append_assoc]; rfl
  · show ((t.ns.length : Nat) : Int) = sI c.m ((s.ns.length : Nat) : Int)
    rw [h.ns, List.length_append, List.length_map]
    unfold sI Ctx.m
    rw [if_neg (by omega)]
    omega
omit hc in
theorem Tw.enter (h : Tw c s t) (he : s.enter.err = 0) : Tw c s.enter t.enter := by
  unfold S.enter at *
  by_cases h1 : 24 < s.opn
  · rw [if_pos h1] at he
    exact (fail_no he).elim
  · rw [if_neg h1, if_neg (by rw [h.opn]; exact h1)]
    exact ⟨h.ts, h.ns, by show t.opn + 1 = s.opn + 1; rw [h.opn], h.e1, h.e2⟩
omit hc in
theorem Tw.leave (h : Tw c s t) : Tw c s.leave t.leave := ⟨h.ts, h.ns, by show t.opn - 1 = s.opn - 1; rw [h.opn], h.e1, h.e2⟩
theorem Tw.fdOf (h : Tw c s t) (hi : Inv n s) : Tw c s.fdOf.2 t.fdOf.2 ∧ t.fdOf.1 = s.fdOf.1 := by
  unfold S.fdOf
  by_cases h1 : s.hd.kind = 3
  · have hk : ¬ s.hd.kind = 4 := by rw [h1]; decide
    rw [if_pos h1, if_pos (by rw [h.k3 hc hi]; exact h1)]
    exact ⟨h.adv hi hk, by rw [h.hdn hi hk]; rfl⟩
  · rw [if_neg h1, if_neg (by rw [h.k3 hc hi]; exact h1)]
    exact ⟨h, rfl⟩
theorem Tw.rword (h : Tw c s t) (hi : Inv n s) (he : s.rword.2.err = 0) : Tw c s.rword.2 t.rword.2 ∧ t.rword.1 = s.rword.1 := by
  unfold S.rword at *
  by_cases h1 : s.hd.kind = 3
  · have hk : ¬ s.hd.kind = 4 := by rw [h1]; decide
    rw [if_pos h1, if_pos (by rw [h.k3 hc hi]; exact h1)]
    exact ⟨h.adv hi hk, by rw [h.hdn hi hk]; rfl⟩
  · rw [if_neg h1] at he ⊢
    rw [if_neg (by rw [h.k3 hc hi]; exact h1)]
    have := h.word hc hi he
    exact ⟨this.1, this.2.1⟩
theorem Tw.bRedir (h : Tw c s t) (hi : Inv n s) : Go.Proofs.Ytoahgblgchmclaa.bRedir t.hd = Go.Proofs.Ytoahgblgchmclaa.bRedir s.hd := h.view hc hi (fun k x => rdTexts.contains x || k == 3) (by decide)
theorem Tw.bFirst (h : Tw c s t) (hi : Inv n s) : Go.Proofs.Ytoahgblgchmclaa.bFirst t.hd = Go.Proofs.Ytoahgblgchmclaa.bFirst s.hd := h.view hc hi (fun k x => k == 1 && (!isRes x || x == [105, 110])) (by decide)
theorem Tw.cKind (h : Tw c s t) (hi : Inv n s) : Go.Proofs.Ytoahgblgchmclaa.cKind t.hd.text = Go.Proofs.Ytoahgblgchmclaa.cKind s.hd.text := h.view hc hi (fun _ x => Go.Proofs.Ytoahgblgchmclaa.cKind x) (by decide)
theorem Tw.isSetB (h : Tw c s t) (hi : Inv n s) : Go.Proofs.Ytoahgblgchmclaa.isSetB t.hd.text = Go.Proofs.Ytoahgblgchmclaa.isSetB s.hd.text := h.view hc hi (fun _ x => Go.Proofs.Ytoahgblgchmclaa.isSetB x) (by decide)
theorem Tw.bItem (h : Tw c s t) (hi : Inv n s) : Go.Proofs.Ytoahgblgchmclaa.bItem t.hd = Go.Proofs.Ytoahgblgchmclaa.bItem s.hd :=
  h.view hc hi (fun k x => x == [33] || (!(Go.Proofs.Ytoahgblgchmclaa.cKind x == 0) || ((rdTexts.contains x || k == 3) || (k == 1 && (!isRes x || x == [105, 110]))))) (by decide)
theorem Tw.redir (h : Tw c s t) (hi : Inv n s) (hb : Go.Proofs.Ytoahgblgchmclaa.bRedir s.hd = true) (he : s.redir.2.err = 0) : Tw c s.redir.2 t.redir.2 ∧ t.redir.1 = s.redir.1 := by
  unfold S.redir at *
  obtain ⟨h1, h2⟩ := h.fdOf hc hi
  have i1 := (fdOf_st n hi).1
  have ho := fdOf_op hi hb
  have hk : ¬ s.fdOf.2.hd.kind = 4 := i1.text (rd_ne ho)
  have i2 := (adv_kind hk n i1).1
  have h3 := h1.adv i1 hk
  obtain ⟨h4, h5⟩ := h3.rword hc i2 he
  exact ⟨h4, by rw [h2, h5, h1.hdn i1 hk]; rfl⟩
theorem redirsG_tw : ∀ (k : Nat) (l : List Rd) (s t : S) (k' : Nat), Inv n s → s.ts.length ≤ k → k ≤ k' → Tw c s t → (redirsG k l s).2.err = 0 → Tw c (redirsG k l s).2 (redirsG k' l t).2 ∧ (redirsG k' l t).1 = (redirsG k l s).1 := by
  intro k
  induction k with
  | zero => intro l s t k' hi hk; have := hi.good.ne; omega
  | succ k ih =>
    intro l s t k' hi hk hk' h he
    obtain ⟨k', rfl⟩ : ∃ j, k' = j + 1 := ⟨k' - 1, by omega⟩
    unfold redirsG at he ⊢
    rw [h.bRedir hc hi]
    split at he
    · rename_i hb
      rw [if_pos hb, if_pos hb]
      have hs := redir_st hb
      have i1 := (hs n hi).1
      have e1 := (redirsG_st k _ _).err i1 he
      obtain ⟨h1, h2⟩ := h.redir hc hi hb e1
      have hl := hs.lt (by decide) hi
      rw [h2]
      exact ih _ _ _ _ i1 (by omega) (by omega) h1 he
    · rename_i hb
      rw [if_neg hb, if_neg hb]
      exact ⟨h, rfl⟩
theorem Tw.redirs (h : Tw c s t) (hi : Inv n s) (he : s.redirs.2.err = 0) : Tw c s.redirs.2 t.redirs.2 ∧ t.redirs.1 = s.redirs.1 :=
  redirsG_tw hc _ _ _ _ _ hi (Nat.le_refl _) (h.len hi) h he
theorem simpG_tw : ∀ (k : Nat) (m : Nd) (s t : S) (k' : Nat), Inv n s → s.ts.length ≤ k → k ≤ k' → Tw c s t → (simpG k m s).2.err = 0 → Tw c (simpG k m s).2 (simpG k' m t).2 ∧ (simpG k' m t).1 = (simpG k m s).1 := by
  intro k
  induction k with
  | zero => intro l s t k' hi hk; have := hi.good.ne; omega
  | succ k ih =>
    intro m s t k' hi hk hk' h he
    obtain ⟨k', rfl⟩ : ∃ j, k' = j + 1 := ⟨k' - 1, by omega⟩
    have hw : ∀ m' : Nd, (simpG k m' s.word.2).2.err = 0 → Tw c (simpG k m' s.word.2).2 (simpG k' m' t.word.2).2 ∧ (simpG k' m' t.word.2).1 = (simpG k m' s.word.2).1 := by
      intro m' he
      have i1 := (word_st s n hi).1
      have e1 := (simpG_st k _ _).err i1 he
      obtain ⟨h1, h2, h3, h4⟩ := h.word hc hi e1
      have hl : s.word.2.ts.length < s.ts.length := by rw [h4]; exact (adv_kind h3).lt (by decide) hi
      exact ih _ _ _ _ i1 (by omega) (by omega) h1 he
    have hwd : s.word.2.err = 0 → t.word.1 = s.word.1 := fun e => (h.word hc hi e).2.1
    unfold simpG at he ⊢
    rw [h.bRedir hc hi, h.isSetB hc hi, h.bFirst hc hi]
    have e1 : (t.hd.kind == 1) = (s.hd.kind == 1) := h.view hc hi (fun k _ => k == 1) (by decide)
    rw [e1]
    split at he
    · rename_i hb
      rw [if_pos hb, if_pos hb]
      have hs := redir_st hb
      have i1 := (hs n hi).1
      have e1 := (simpG_st k _ _).err i1 he
      obtain ⟨h1, h2⟩ := h.redir hc hi hb e1
      have hl := hs.lt (by decide) hi
      rw [h2]
      exact ih _ _ _ _ i1 (by omega) (by omega) h1 he
    · rename_i hb
      rw [if_neg hb, if_neg hb]
      split at he
      · rename_i hb2
        rw [if_pos hb2, if_pos hb2, hwd ((simpG_st k _ _).err (word_st s n hi).1 he)]
        exact hw _ he
      · rename_i hb2
        rw [if_neg hb2, if_neg hb2]
        split at he
        · rename_i hb3
          rw [if_pos hb3, if_pos hb3, hwd ((simpG_st k _ _).err (word_st s n hi).1 he)]
          exact hw _ he
        · rename_i hb3
          rw [if_neg hb3, if_neg hb3]
          exact ⟨h, rfl⟩
omit hc in
theorem shN_none {x : Nd} (m : Nat) (h : x.kids = []) : shN m x = x := by
  cases x
  unfold shN
  simp only at h ⊢
  rw [h]; rfl
theorem Tw.simple (h : Tw c s t) (hi : Inv n s) (he : s.simple.2.err = 0) : Tw c s.simple.2 t.simple.2 ∧ t.simple.1 = sI c.m s.simple.1 := by
  unfold S.simple at *
  have s1 := simpG_st s.ts.length (nd 1 []) s
  have i1 := (s1 n hi).1
  have e2 : ((simpG s.ts.length (nd 1 []) s).2.orFail (simpG s.ts.length (nd 1 []) s).1).err = 0 := he
  have e1 := (orFail_st _ _).err i1 e2
  obtain ⟨h1, h2⟩ := simpG_tw hc s.ts.length (nd 1 []) s t t.ts.length hi (Nat.le_refl _) (h.len hi) h e1
  rw [h2]
  have hk := (simpG_ns s.ts.length (nd 1 []) s).2.2.2
  generalize simpG s.ts.length (nd 1 []) s = a at *
  generalize simpG t.ts.length (nd 1 []) t = b at *
  refine Tw.add ?_ (shN_none _ hk).symm
  unfold S.orFail at *
  by_cases hz : a.1.sets.length + a.1.words.length + a.1.redirs.length = 0
  · rw [if_pos hz] at e2
    exact (fail_no e2).elim
  · rw [if_neg hz, if_neg hz]
    exact h1
theorem wordsG_tw : ∀ (k : Nat) (l : List Bs) (s t : S) (k' : Nat), Inv n s → s.ts.length ≤ k → k ≤ k' → Tw c s t → (wordsG k l s).2.err = 0 → Tw c (wordsG k l s).2 (wordsG k' l t).2 ∧ (wordsG k' l t).1 = (wordsG k l s).1 := by
  intro k
  induction k with
  | zero => intro l s t k' hi hk; have := hi.good.ne; omega
  | succ k ih =>
    intro l s t k' hi hk hk' h he
    obtain ⟨k', rfl⟩ : ∃ j, k' = j + 1 := ⟨k' - 1, by omega⟩
    unfold wordsG at he ⊢
    simp only [h.k1 hc hi]
    split at he
    · rename_i hb
      rw [if_pos hb, if_pos hb]
      have i1 := (word_st s n hi).1
      have e1 := (wordsG_st k _ _).err i1 he
      obtain ⟨h1, h2, h3, h4⟩ := h.word hc hi e1
      have hl : s.word.2.ts.length < s.ts.length := by rw [h4]; exact (adv_kind h3).lt (by decide) hi
      rw [h2]
      exact ih _ _ _ _ i1 (by omega) (by omega) h1 he
    · rename_i hb
      rw [if_neg hb, if_neg hb]
      exact ⟨h, rfl⟩
theorem patG_tw : ∀ (k : Nat) (l : List Bs) (s t : S) (k' : Nat), Inv n s → s.ts.length ≤ k → k ≤ k' → Tw c s t → (patG k l s).2.err = 0 → Tw c (patG k l s).2 (patG k' l t).2 ∧ (patG k' l t).1 = (patG k l s).1 := by
  intro k
  induction k with
  | zero => intro l s t k' hi hk; have := hi.good.ne; omega
  | succ k ih =>
    intro l s t k' hi hk hk' h he
    obtain ⟨k', rfl⟩ : ∃ j, k' = j + 1 := ⟨k' - 1, by omega⟩
    unfold patG at he ⊢
    rw [h.isEq hc hi (by decide) (by decide)]
    split at he
    · rename_i hb
      rw [if_pos hb, if_pos hb]
      have sa := adv_is (by decide) hb
      have i0 := (sa n hi).1
      have h0 := (h.isT hi (by decide) hb).2
      have i1 := (word_st s.adv n i0).1
      have e1 := (patG_st k _ _).err i1 he
      obtain ⟨h1, h2, h3, h4⟩ := h0.word hc i0 e1
      have hl := sa.lt (by decide) hi
      have hl2 := (word_st s.adv).len i0
      rw [h2]
      exact ih _ _ _ _ i1 (by omega) (by omega) h1 he
    · rename_i hb
      rw [if_neg hb, if_neg hb]
      exact ⟨h, rfl⟩
theorem Tw.patterns (h : Tw c s t) (hi : Inv n s) (he : s.patterns.2.err = 0) : Tw c s.patterns.2 t.patterns.2 ∧ t.patterns.1 = s.patterns.1 := by
  unfold S.patterns at *
  dsimp only at he ⊢
  have i1 := (may_st s (t := [40]) (by decide) n hi).1
  have i2 := (word_st _ n i1).1
  have s3 := patG_st (s.may [40]).word.2.ts.length [(s.may [40]).word.1] (s.may [40]).word.2
  have i3 := (s3 n i2).1
  have e3 := (need_st _ (t := [41]) (by decide)).err i3 he
  have e2 := s3.err i2 e3
  have h1 := h.may hc hi (w := [40]) (by decide) (by decide)
  obtain ⟨h2, h2b, _⟩ := h1.word hc i1 e2
  obtain ⟨h3, h3b⟩ := patG_tw hc _ [(s.may [40]).word.1] _ _ _ i2 (Nat.le_refl _) (h2.len i2) h2 e3
  rw [h2b]
  exact ⟨h3.need i3 (by decide) he, h3b⟩
theorem Tw.forIn (h : Tw c s t) (hi : Inv n s) (he : s.forIn.2.err = 0) (hp : c.q = true ∨ ¬ s.forIn.2.hd.kind = 4) : Tw c s.forIn.2 t.forIn.2 ∧ t.forIn.1 = s.forIn.1 := by
  unfold S.forIn at *
  dsimp only at he hp ⊢
  have ib := (breaks_st s n hi).1
  have hb4 : ∀ x : S, St 0 0 s.breaks x → x.hd.kind = 4 ∨ ¬ x.hd.kind = 4 := fun _ _ => Decidable.em _
  by_cases hin : s.breaks.is [105, 110] = true
  · simp only [if_pos hin] at he hp ⊢
    have hk := ib.isN (by decide) hin
    have h1 := h.breaks hc hi (.inr hk)
    obtain ⟨hin2, h2⟩ := h1.isT ib (by decide) hin
    simp only [if_pos hin2]
    have i1 := (adv_is (by decide) hin n ib).1
    have s2 := wordsG_st s.breaks.ts.length [] s.breaks.adv
    have i2 := (s2 n i1).1
    have s3 := may_st (wordsG s.breaks.ts.length [] s.breaks.adv).2 (t := [59]) (by decide)
    have i3 := (s3 n i2).1
    have e3 := (breaks_st _).err i3 he
    have e2 := s3.err i2 e3
    have hl := (adv_is (by decide) hin).len ib
    obtain ⟨h3, h3b⟩ := wordsG_tw hc s.breaks.ts.length [] _ _ t.breaks.ts.length i1 hl (h1.len ib) h2 e2
    have h4 := h3.may hc i2 (w := [59]) (by decide) (by decide)
    refine ⟨h4.breaks hc i3 hp, ?_⟩
    rw [h3b, hin, hin2]
  · have hin0 : s.breaks.is [105, 110] = false := by cases hx : s.breaks.is [105, 110] with | true => exact absurd hx hin | false => rfl
    simp only [if_neg hin] at he hp ⊢
    have s3 := may_st s.breaks (t := [59]) (by decide)
    have i3 := (s3 n ib).1
    have hp1 : c.q = true ∨ ¬ s.breaks.hd.kind = 4 := hp.imp_right fun hx h4 => hx ((breaks_st _).fin i3 (s3.fin ib h4))
    have h1 := h.breaks hc hi hp1
    have hin2 : t.breaks.is [105, 110] = false := by rw [h1.isEq hc ib (by decide) (by decide)]; exact hin0
    have hin3 : ¬ t.breaks.is [105, 110] = true := by rw [hin2]; decide
    simp only [if_neg hin3]
    have h4 := h1.may hc ib (w := [59]) (by decide) (by decide)
    refine ⟨h4.breaks hc i3 hp, ?_⟩
    rw [hin0, hin2]
theorem Tw.caseHead (h : Tw c s t) (hi : Inv n s) (he : s.caseHead.2.err = 0) (hp : c.q = true ∨ ¬ s.caseHead.2.hd.kind = 4) : Tw c s.caseHead.2 t.caseHead.2 ∧ t.caseHead.1 = s.caseHead.1 := by
  unfold S.caseHead at *
  dsimp only at he hp ⊢
  have i1 := (need_st s (t := [99, 97, 115, 101]) (by decide) n hi).1
  have i2 := (word_st _ n i1).1
  have i3 := (breaks_st _ n i2).1
  have i4 := (need_st _ (t := [105, 110]) (by decide) n i3).1
  have e4 := (breaks_st _).err i4 he
  have e3 := (need_st _ (t := [105, 110]) (by decide)).err i3 e4
  have e2 := (breaks_st _).err i2 e3
  have e1 := (word_st _).err i1 e2
  have h1 := h.need hi (w := [99, 97, 115, 101]) (by decide) e1
  obtain ⟨h2, h2b, _⟩ := h1.word hc i1 e2
  have h3 := h2.breaks hc i2 (.inr (i3.isN (by decide) (need_ok e4).1))
  have h4 := h3.need i3 (w := [105, 110]) (by decide) e4
  exact ⟨h4.breaks hc i4 hp, h2b⟩
end
end Go.Proofs.Ytoahgblgchmclaa
