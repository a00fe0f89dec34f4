/- All words of a text stand in its nodes. -/
import Derived.Test.YtoahgblgchmclaaPD
namespace Go.Proofs.Ytoahgblgchmclaa
set_option linter.unusedVariables false
set_option linter.unusedSimpArgs false
def nres (t : Bs) : Nat := if isRes t then 0 else 1
def wTk (t : Tk) : Nat := if t.kind = 1 then nres t.text else 0
def wT (ts : List Tk) : Nat := (ts.map wTk).sum
def wl (l : List Bs) : Nat := (l.map nres).sum
def digW (w : Bs) : Bool := decide (w.length = 1) && isDig (w.headD 0)
def wRd (l : List Rd) : Nat := (l.map fun r => nres r.word).sum
def wPs (l : List (List Bs)) : Nat := (l.map wl).sum
def wN (n : Nd) : Nat := n.sets.length + (if n.name = [] then 0 else nres n.name) + wl n.words + wPs n.pats + wRd n.redirs
def wNs (ns : List Nd) : Nat := (ns.map wN).sum
def ndR (l : List Rd) : Prop := ∀ r ∈ l, digW r.word = false
def noDig (ns : List Nd) : Prop := ∀ n ∈ ns, ndR n.redirs
def tot (s : S) : Nat := wT s.ts + wNs s.ns
theorem wl_app (a b : List Bs) : wl (a ++ b) = wl a + wl b := by simp [wl]
theorem wRd_app (a b : List Rd) : wRd (a ++ b) = wRd a + wRd b := by simp [wRd]
theorem wPs_app (a b : List (List Bs)) : wPs (a ++ b) = wPs a + wPs b := by simp [wPs]
theorem wNs_app (a b : List Nd) : wNs (a ++ b) = wNs a + wNs b := by simp [wNs]
theorem noDig.pre {a b : List Nd} (h : noDig b) (hp : a <+: b) : noDig a := fun n hn => h n (hp.subset hn)
theorem Inv.hdc {n : Nat} {s : S} (hi : Inv n s) : s.ts = s.hd :: s.adv.ts := by
  rcases hi.next with ⟨_, _, _, h⟩ | ⟨_, u, r, h, _⟩
  · unfold S.adv; rw [h]; rfl
  · unfold S.adv; rw [h]; rfl
theorem tot_adv {n : Nat} {s : S} (hi : Inv n s) : tot s = wTk s.hd + tot s.adv := by
  unfold tot wT
  rw [hi.hdc, List.map_cons, List.sum_cons]
  show wTk s.hd + (s.adv.ts.map wTk).sum + wNs s.ns = wTk s.hd + ((s.adv.ts.map wTk).sum + wNs s.ns)
  omega
theorem sg_stop : ∀ t ∈ sgTexts, stopB (t.headD 0) = true := by decide
theorem wTk_zero {n : Nat} {s : S} (hi : Inv n s) {t : Bs} (h : s.is t = true) (ht : isRes t = true ∨ sgTexts.contains t = true) : wTk s.hd = 0 := by
  unfold S.is at h
  rw [beq_iff_eq] at h
  unfold wTk
  split
  · rename_i hk
    rcases ht with ht | ht
    · unfold nres; rw [h, ht]; rfl
    · rcases hi.next with ⟨h1, _⟩ | ⟨_, u, r, _, hg, _⟩
      · rw [h1] at hk; cases hk
      · rcases hg.2.2.2 with ⟨k, _⟩ | ⟨_, k⟩ | ⟨k, _⟩
        · rw [hk] at k; cases k
        · rw [h] at k
          have := sg_stop t (List.contains_iff_mem.1 ht)
          rw [this] at k; cases k
        · rw [hk] at k; cases k
  · rfl
theorem adv_tot {n : Nat} {s : S} (hi : Inv n s) {t : Bs} (h : s.is t = true) (ht : isRes t = true ∨ sgTexts.contains t = true) : tot s.adv = tot s := by
  have := tot_adv hi
  rw [wTk_zero hi h ht] at this
  omega
theorem need_tot {n : Nat} {s : S} (hi : Inv n s) {t : Bs} (ht : isRes t = true ∨ sgTexts.contains t = true) (he : (s.need t).err = 0) : tot (s.need t) = tot s := by
  obtain ⟨h1, h2⟩ := need_ok he
  rw [h2]
  exact adv_tot hi h1 ht
theorem may_tot {n : Nat} {s : S} (hi : Inv n s) {t : Bs} (ht : isRes t = true ∨ sgTexts.contains t = true) : tot (s.may t) = tot s := by
  unfold S.may
  split
  · rename_i h; exact adv_tot hi h ht
  · rfl
theorem breaks_tot {n : Nat} {s : S} (hi : Inv n s) : tot s.breaks = tot s := by
  have key : ∀ (k : Nat) (s : S), s.ts.length ≤ k → Inv n s → tot s.breaks = tot s := by
    intro k
    induction k with
    | zero => intro s hk hi; have := hi.good.ne; omega
    | succ k ih =>
      intro s hk hi
      cases h : s.is [10] with
      | true =>
        rw [breaks_cons h]
        have h3 : s.adv.ts.length ≤ k := by show s.ts.tail.length ≤ k; rw [List.length_tail]; have := hi.good.ne; omega
        rw [ih _ h3 (adv_is (by decide) h n hi).1]
        exact adv_tot hi h (.inr (by decide))
      | false => rw [breaks_stop h]
  exact key _ s (Nat.le_refl _) hi
theorem word_tot {n : Nat} {s : S} (hi : Inv n s) (he : s.word.2.err = 0) : tot s.word.2 + nres s.word.1 = tot s := by
  unfold S.word at *
  split at he
  · rename_i h
    rw [if_pos h]
    have := tot_adv hi
    unfold wTk at this
    rw [if_pos h] at this
    show tot s.adv + nres s.hd.text = _
    omega
  · exact (fail_no he).elim
theorem nm_head {c : UInt8} {r : Bs} (h : isNm (c :: r) = true) : pLet c = true := by
  unfold isNm nmS nmL at h
  cases hc : pLet c with
  | true => rfl
  | false =>
    rw [hc] at h
    simp at h
theorem name_tot {n : Nat} {s : S} (hi : Inv n s) (he : s.name.2.err = 0) : tot s.name.2 + nres s.name.1 = tot s := by
  unfold S.name at *
  split at he
  · rename_i h
    rw [if_pos h]
    have ht := tot_adv hi
    have hk : s.hd.kind = 1 := by
      rcases hi.next with ⟨_, h1, _⟩ | ⟨_, u, r, _, hg, _⟩
      · exact absurd h1 (isNm_ne h)
      · rcases hg.2.2.2 with ⟨_, k⟩ | ⟨k, _⟩ | ⟨_, c, k, kd⟩
        · have hh : ∀ t ∈ sgTexts, isNm t = false := by decide
          have := hh _ (List.contains_iff_mem.1 k)
          rw [this] at h; cases h
        · exact k
        · rw [k] at h
          have := nm_head h
          unfold isDig at kd
          unfold pLet at this
          simp only [Bool.and_eq_true, Bool.or_eq_true, decide_eq_true_eq] at this kd
          omega
    unfold wTk at ht
    rw [if_pos hk] at ht
    show tot s.adv + nres s.hd.text = _
    omega
  · exact (fail_no he).elim
theorem add_tot (s : S) (n : Nd) : tot (s.add n).2 = tot s + wN n := by
  unfold tot S.add
  show wT s.ts + wNs (s.ns ++ [n]) = _
  rw [wNs_app]
  simp [wNs]
  omega
theorem rd_stop : ∀ t ∈ rdTexts, stopB (t.headD 0) = true ∧ digW t = false := by decide
theorem rd_tk {n : Nat} {s : S} (hi : Inv n s) (h : rdTexts.contains s.hd.text = true) : wTk s.hd = 0 := by
  have h1 : ∀ t ∈ rdTexts, sgTexts.contains t = true := by decide
  refine wTk_zero hi (t := s.hd.text) (by unfold S.is; exact beq_self_eq_true _) (.inr (h1 _ (List.contains_iff_mem.1 h)))
theorem redir_tot {n : Nat} {s : S} (hi : Inv n s) (h : bRedir s.hd = true) (he : s.redir.2.err = 0) (hd : digW s.redir.1.word = false) : tot s.redir.2 + nres s.redir.1.word = tot s := by
  have hop := fdOf_op hi h
  have hf : tot s.fdOf.2 = tot s := by
    unfold S.fdOf
    split
    · rename_i hk
      have := tot_adv hi
      unfold wTk at this
      rw [if_neg (by rw [hk]; decide)] at this
      show tot s.adv = _
      omega
    · rfl
  have i1 := (fdOf_st (s := s) n hi).1
  have ha : tot s.fdOf.2.adv = tot s := by
    have := tot_adv i1
    rw [rd_tk i1 hop] at this
    omega
  have i2 := (adv_st (rd_ne hop) n i1).1
  have e1 : s.redir.2 = s.fdOf.2.adv.rword.2 := rfl
  have e2 : s.redir.1.word = s.fdOf.2.adv.rword.1 := rfl
  rw [e1] at he ⊢
  rw [e2] at hd ⊢
  unfold S.rword at *
  split at he
  · rename_i hk
    rw [if_pos hk] at hd
    rcases i2.next with ⟨h1, _⟩ | ⟨_, u, r, _, hg, _⟩
    · rw [h1] at hk; cases hk
    · rcases hg.2.2.2 with ⟨k, _⟩ | ⟨k, _⟩ | ⟨_, c, k, kd⟩
      · rw [hk] at k; cases k
      · rw [hk] at k; cases k
      · have hd' : digW s.fdOf.2.adv.hd.text = false := hd
        rw [k] at hd'
        unfold digW at hd'
        simp [kd] at hd'
  · rename_i hk
    rw [if_neg hk] at hd ⊢
    rw [word_tot i2 he]
    exact ha
theorem simpG_mono : ∀ (k : Nat) (n : Nd) (s : S), ∀ r ∈ n.redirs, r ∈ (simpG k n s).1.redirs := by
  intro k
  induction k with
  | zero => intro n s r h; exact h
  | succ k ih =>
    intro n s r h
    unfold simpG
    split
    · exact ih _ _ r (by simp [h])
    · split
      · exact ih _ _ r h
      · split
        · exact ih _ _ r h
        · exact h
theorem set_nres {t : Bs} (h : isSetB t = true) : nres t = 1 := by
  unfold nres
  split
  · rename_i hr
    have hh : ∀ t ∈ resWords, isSetB t = false := by decide
    have := hh t (List.contains_iff_mem.1 hr)
    rw [this] at h; cases h
  · rfl
theorem simpG_tot : ∀ (k : Nat) (m : Nd) (s : S) (n : Nat), Inv n s → (simpG k m s).2.err = 0 → ndR (simpG k m s).1.redirs → tot (simpG k m s).2 + wN (simpG k m s).1 = tot s + wN m := by
  intro k
  induction k with
  | zero => intro m s n hi he hd; rfl
  | succ k ih =>
    intro m s n hi he hd
    unfold simpG at he hd ⊢
    split at he
    · rename_i h
      rw [if_pos h] at hd ⊢
      have i1 := (redir_st h n hi).1
      have h1 := ih _ _ n i1 he hd
      have e1 := (simpG_st k _ _).err i1 he
      have hm := simpG_mono k { m with redirs := m.redirs ++ [s.redir.1] } s.redir.2 s.redir.1 (by simp)
      have h2 := redir_tot hi h e1 (hd _ hm)
      have h3 : wN { m with redirs := m.redirs ++ [s.redir.1] } = wN m + nres s.redir.1.word := by
        unfold wN
        rw [wRd_app]
        simp [wRd]
        omega
      omega
    · rename_i h
      rw [if_neg h] at hd ⊢
      split at he
      · rename_i h1
        rw [if_pos h1] at hd ⊢
        have i1 := (word_st s n hi).1
        have h2 := ih _ _ n i1 he hd
        have e1 := (simpG_st k _ _).err i1 he
        have h3 := word_tot hi e1
        rw [Bool.and_eq_true] at h1
        have e2 : nres s.word.1 = 1 := by
          have : s.word.1 = s.hd.text := by
            unfold S.word at e1 ⊢
            split at e1
            · rename_i hk; rw [if_pos hk]
            · exact (fail_no e1).elim
          rw [this]
          exact set_nres h1.2
        have h4 : wN { m with sets := m.sets ++ [s.word.1] } = wN m + 1 := by
          unfold wN
          simp
          omega
        omega
      · rename_i h1
        rw [if_neg h1] at hd ⊢
        split at he
        · rename_i h5
          rw [if_pos h5] at hd ⊢
          have i1 := (word_st s n hi).1
          have h2 := ih _ _ n i1 he hd
          have e1 := (simpG_st k _ _).err i1 he
          have h3 := word_tot hi e1
          have h4 : wN { m with words := m.words ++ [s.word.1] } = wN m + nres s.word.1 := by
            unfold wN
            rw [wl_app]
            simp [wl]
            omega
          omega
        · rename_i h5
          rw [if_neg h5]
theorem simple_tot {n : Nat} {s : S} (hi : Inv n s) (he : s.simple.2.err = 0) (hd : noDig s.simple.2.ns) : tot s.simple.2 = tot s := by
  unfold S.simple at *
  have h1 := simpG_tot s.ts.length (nd 1 []) s n hi
  have i1 := (simpG_st s.ts.length (nd 1 []) s n hi).1
  generalize simpG s.ts.length (nd 1 []) s = r at *
  have e1 : (r.2.orFail r.1).err = 0 := he
  have e2 : r.2.err = 0 := (orFail_st _ _).err i1 e1
  have e3 : r.2.orFail r.1 = r.2 := by
    unfold S.orFail at *
    split at e1
    · exact (fail_no e1).elim
    · rename_i h; rw [if_neg h]
  rw [e3] at hd ⊢
  rw [add_tot]
  have hr : ndR r.1.redirs := hd r.1 (by show r.1 ∈ r.2.ns ++ [r.1]; simp)
  have := h1 e2 hr
  have h0 : wN (nd 1 []) = 0 := rfl
  omega
theorem redirsG_mono : ∀ (k : Nat) (l : List Rd) (s : S), ∀ r ∈ l, r ∈ (redirsG k l s).1 := by
  intro k
  induction k with
  | zero => intro n s r h; exact h
  | succ k ih =>
    intro n s r h
    unfold redirsG
    split
    · exact ih _ _ r (by simp [h])
    · exact h
theorem redirsG_tot : ∀ (k : Nat) (l : List Rd) (s : S) (n : Nat), Inv n s → (redirsG k l s).2.err = 0 → ndR (redirsG k l s).1 → tot (redirsG k l s).2 + wRd (redirsG k l s).1 = tot s + wRd l := by
  intro k
  induction k with
  | zero => intro m s n hi he hd; rfl
  | succ k ih =>
    intro m s n hi he hd
    unfold redirsG at he hd ⊢
    split at he
    · rename_i h
      rw [if_pos h] at hd ⊢
      have i1 := (redir_st h n hi).1
      have h1 := ih _ _ n i1 he hd
      have e1 := (redirsG_st k _ _).err i1 he
      have hm := redirsG_mono k (m ++ [s.redir.1]) s.redir.2 s.redir.1 (by simp)
      have h2 := redir_tot hi h e1 (hd _ hm)
      have h3 : wRd (m ++ [s.redir.1]) = wRd m + nres s.redir.1.word := by rw [wRd_app]; simp [wRd]
      omega
    · rename_i h
      rw [if_neg h]
theorem wordsG_tot : ∀ (k : Nat) (l : List Bs) (s : S) (n : Nat), Inv n s → (wordsG k l s).2.err = 0 → tot (wordsG k l s).2 + wl (wordsG k l s).1 = tot s + wl l := by
  intro k
  induction k with
  | zero => intro m s n hi he; rfl
  | succ k ih =>
    intro m s n hi he
    unfold wordsG at he ⊢
    split at he
    · rename_i h
      rw [if_pos h]
      have i1 := (word_st s n hi).1
      have h1 := ih _ _ n i1 he
      have h2 := word_tot hi ((wordsG_st k _ _).err i1 he)
      rw [wl_app] at h1
      simp only [wl, List.map_cons, List.map_nil, List.sum_cons, List.sum_nil] at h1 h2 ⊢
      omega
    · rename_i h
      rw [if_neg h]
theorem patG_tot : ∀ (k : Nat) (l : List Bs) (s : S) (n : Nat), Inv n s → (patG k l s).2.err = 0 → tot (patG k l s).2 + wl (patG k l s).1 = tot s + wl l := by
  intro k
  induction k with
  | zero => intro m s n hi he; rfl
  | succ k ih =>
    intro m s n hi he
    unfold patG at he ⊢
    split at he
    · rename_i h
      rw [if_pos h]
      have i0 := (adv_is (by decide) h n hi).1
      have i1 := (word_st s.adv n i0).1
      have h1 := ih _ _ n i1 he
      have h2 := word_tot i0 ((patG_st k _ _).err i1 he)
      have h3 := adv_tot hi h (.inr (by decide))
      rw [wl_app] at h1
      simp only [wl, List.map_cons, List.map_nil, List.sum_cons, List.sum_nil] at h1 h2 ⊢
      omega
    · rename_i h
      rw [if_neg h]
theorem forIn_tot {n : Nat} {s : S} (hi : Inv n s) (he : s.forIn.2.err = 0) : tot s.forIn.2 + wl s.forIn.1.2 = tot s := by
  unfold S.forIn at *
  dsimp only at he ⊢
  have ib := (breaks_st s n hi).1
  have tb := breaks_tot hi
  split at he
  · rename_i h
    simp only [if_pos h]
    have i1 := (adv_is (by decide) h n ib).1
    have t1 := adv_tot ib h (.inl (by decide))
    have i2 := (wordsG_st s.breaks.ts.length [] s.breaks.adv n i1).1
    have i3 := (may_st (wordsG s.breaks.ts.length [] s.breaks.adv).2 (t := [59]) (by decide) n i2).1
    have e3 := (breaks_st _).err i3 he
    have e2 := (may_st _ (t := [59]) (by decide)).err i2 e3
    have h1 := wordsG_tot _ [] _ n i1 e2
    rw [breaks_tot i3, may_tot i2 (.inr (by decide))]
    have h0 : wl [] = 0 := rfl
    omega
  · rename_i h
    simp only [if_neg h]
    have i3 := (may_st s.breaks (t := [59]) (by decide) n ib).1
    rw [breaks_tot i3, may_tot ib (.inr (by decide))]
    exact tb
theorem patterns_tot {n : Nat} {s : S} (hi : Inv n s) (he : s.patterns.2.err = 0) : tot s.patterns.2 + wl s.patterns.1 = tot s := by
  unfold S.patterns at *
  dsimp only at he ⊢
  have i1 := (may_st s (t := [40]) (by decide) n hi).1
  have i2 := (word_st _ n i1).1
  have s3 := patG_st (s.may [40]).word.2.ts.length [(s.may [40]).word.1] (s.may [40]).word.2
  have i3 := (s3 n i2).1
  have e3 := (need_st _ (t := [41]) (by decide)).err i3 he
  have e2 := s3.err i2 e3
  have h1 := may_tot hi (t := [40]) (.inr (by decide))
  have h2 := word_tot i1 e2
  have h3 := patG_tot _ _ _ n i2 e3
  rw [need_tot i3 (.inr (by decide)) he]
  simp only [wl, List.map_cons, List.map_nil, List.sum_cons, List.sum_nil] at h3 ⊢
  omega
theorem caseHead_tot {n : Nat} {s : S} (hi : Inv n s) (he : s.caseHead.2.err = 0) : tot s.caseHead.2 + nres s.caseHead.1 = tot s := by
  unfold S.caseHead at *
  dsimp only at he ⊢
  have i1 := (need_st s (t := [99, 97, 115, 101]) (by decide) n hi).1
  have i2 := (word_st _ n i1).1
  have i3 := (breaks_st _ n i2).1
  have i4 := (need_st _ (t := [105, 110]) (by decide) n i3).1
  have e4 := (breaks_st _).err i4 he
  have e3 := (need_st _ (t := [105, 110]) (by decide)).err i3 e4
  have e2 := (breaks_st _).err i2 e3
  have e1 := (word_st _).err i1 e2
  have h1 := need_tot hi (.inl (by decide)) e1
  have h2 := word_tot i1 e2
  rw [breaks_tot i4, need_tot i3 (.inl (by decide)) e4, breaks_tot i2]
  omega
def Lcw (L : S → Int × S) : Prop := ∀ n s, Inv n s → (L s).2.err = 0 → noDig (L s).2.ns → tot (L s).2 = tot s
theorem St.pre {c o : Int} {s t : S} {n : Nat} (h : St c o s t) (hi : Inv n s) (hd : noDig t.ns) : noDig s.ns := hd.pre (h n hi).2.1.pre
theorem wN_nd (k : Int) (ks : List Int) : wN (nd k ks) = 0 := rfl
section
variable {L : S → Int × S} (hL : Lst L) (hW : Lcw L)
include hL hW
theorem listsG_one {n : Nat} {s : S} (hi : Inv n s) {w : Bs} {ks : List Int} (hw : isRes w = true ∨ sgTexts.contains w = true) (h0 : ¬ w = []) (he : (listsG L [w] ks s).2.err = 0) (hd : noDig (listsG L [w] ks s).2.ns) : tot (listsG L [w] ks s).2 = tot s := by
  unfold listsG listsG at *
  have i1 := (hL s n hi).1
  have e1 := (need_st (L s).2 h0).err i1 he
  rw [need_tot i1 hw he]
  exact hW n s hi e1 (by rw [need_ns] at hd; exact hd)
theorem listsG_two {n : Nat} {s : S} (hi : Inv n s) {w x : Bs} {ks : List Int} (hw : isRes w = true) (h0 : ¬ w = []) (hx : isRes x = true) (h1 : ¬ x = []) (he : (listsG L [w, x] ks s).2.err = 0) (hd : noDig (listsG L [w, x] ks s).2.ns) : tot (listsG L [w, x] ks s).2 = tot s := by
  have e : listsG L [w, x] ks s = listsG L [x] (ks ++ [(L s).1]) ((L s).2.need w) := rfl
  rw [e] at he hd ⊢
  have i1 := (hL s n hi).1
  have i2 := (need_st (L s).2 h0 n i1).1
  have s3 := lists_one hL x (ks ++ [(L s).1]) ((L s).2.need w) h1
  have e2 := s3.err i2 he
  have e1 := (need_st (L s).2 h0).err i1 e2
  have d2 := s3.pre i2 hd
  rw [listsG_one hL hW i2 (.inl hx) h1 he hd, need_tot i1 (.inl hw) e2]
  exact hW n s hi e1 (by rw [need_ns] at d2; exact d2)
theorem branG_tot : ∀ (k : Nat) (w : Bs) (s : S) (n : Nat), Inv n s → isRes w = true → ¬ w = [] → s.is w = true → (branG L k w s).2.err = 0 → noDig (branG L k w s).2.ns → tot (branG L k w s).2 = tot s := by
  intro k
  induction k with
  | zero => intro w s n _ _ _ _ _ _; rfl
  | succ k ih =>
    intro w s n hi hr hw his he hd
    unfold branG at he hd ⊢
    dsimp only at he hd ⊢
    have i1 := (need_st s hw n hi).1
    have i2 := (hL _ n i1).1
    have s3 : St 0 0 (L (s.need w)).2 ((L (s.need w)).2.need [116, 104, 101, 110]) := need_st _ (by decide)
    have i3 := (s3 n i2).1
    have i4 := (hL _ n i3).1
    have key : (L ((L (s.need w)).2.need [116, 104, 101, 110])).2.err = 0 → noDig (L ((L (s.need w)).2.need [116, 104, 101, 110])).2.ns → tot (L ((L (s.need w)).2.need [116, 104, 101, 110])).2 = tot s := by
      intro e4 d4
      have e3 := (hL _).err i3 e4
      have e2 := s3.err i2 e3
      have e1 := (hL _).err i1 e2
      have d3 := (hL _).pre i3 d4
      have d2 := s3.pre i2 d3
      rw [hW n _ i3 e4 d4, need_tot i2 (.inl (by decide)) e3, hW n _ i1 e2 d2, need_tot hi (.inl hr) e1]
    generalize (L ((L (s.need w)).2.need [116, 104, 101, 110])) = q at *
    split at he
    · rename_i h
      rw [if_pos h] at hd ⊢
      have hb := branG_st hL k _ _ (by decide) h
      have ib := (hb n i4).1
      have eb : (branG L k [101, 108, 105, 102] q.2).2.err = 0 := he
      have db := (add_st _ _).pre ib hd
      show tot ((branG L k [101, 108, 105, 102] q.2).2.add (nd 10 _)).2 = _
      rw [add_tot, wN_nd, ih _ _ n i4 (by decide) (by decide) h eb db]
      exact key (hb.err i4 eb) (hb.pre i4 db)
    · rename_i h
      rw [if_neg h] at hd ⊢
      split at he
      · rename_i h'
        rw [if_pos h'] at hd ⊢
        have ha := adv_is (by decide) h'
        have ia := (ha n i4).1
        have ea := (hL _).err ia he
        have da := (hL _).pre ia hd
        show tot (L q.2.adv).2 = _
        rw [hW n _ ia he hd, adv_tot i4 h' (.inl (by decide))]
        exact key (ha.err i4 ea) (ha.pre i4 da)
      · rename_i h'
        rw [if_neg h'] at hd ⊢
        exact key he hd
theorem caseG_tot : ∀ (k : Nat) (ps : List (List Bs)) (ks : List Int) (s : S) (n : Nat), Inv n s → (caseG L k ps ks s).2.err = 0 → noDig (caseG L k ps ks s).2.ns → tot (caseG L k ps ks s).2 + wPs (caseG L k ps ks s).1.1 = tot s + wPs ps := by
  intro k
  induction k with
  | zero => intro ps ks s n hi he hd; rfl
  | succ k ih =>
    intro ps ks s n hi he hd
    unfold caseG at he hd ⊢
    split at he
    · rename_i h
      rw [if_pos h]
      show tot s.adv + _ = _
      rw [adv_tot hi h (.inl (by decide))]
    · rename_i h
      rw [if_neg h] at hd ⊢
      dsimp only at he hd ⊢
      have ip := (patterns_st s n hi).1
      have sc := caseList_st hL s.patterns.2
      have ic := (sc n ip).1
      have key : (caseList L s.patterns.2).2.err = 0 → noDig (caseList L s.patterns.2).2.ns → tot (caseList L s.patterns.2).2 + wPs (ps ++ [s.patterns.1]) = tot s + wPs ps := by
        intro e0 d0
        have ep := sc.err ip e0
        have hp := patterns_tot hi ep
        have hc : tot (caseList L s.patterns.2).2 = tot s.patterns.2 := by
          unfold caseList at *
          split at e0
          · rename_i hb
            rw [if_pos hb] at d0 ⊢
            rw [hW n _ (breaks_st s.patterns.2 n ip).1 e0 d0]
            exact breaks_tot ip
          · rename_i hb
            rw [if_neg hb]
            exact breaks_tot ip
        rw [wPs_app, hc]
        simp only [wPs, List.map_cons, List.map_nil, List.sum_cons, List.sum_nil]
        omega
      split at he
      · rename_i h2
        rw [if_pos h2] at hd ⊢
        have sa := adv_is (by decide) h2
        have ia := (sa n ic).1
        have ib := (breaks_st _ n ia).1
        have sg := caseG_st hL k (ps ++ [s.patterns.1]) (ks ++ [(caseList L s.patterns.2).1]) (caseList L s.patterns.2).2.adv.breaks
        have e1 := (breaks_st _).err ia (sg.err ib he)
        have d1 := (breaks_st _).pre ia (sg.pre ib hd)
        have h3 := ih _ _ _ n ib he hd
        have h4 := key (sa.err ic e1) (sa.pre ic d1)
        rw [breaks_tot ia, adv_tot ic h2 (.inr (by decide))] at h3
        omega
      · rename_i h2
        rw [if_neg h2] at hd ⊢
        have sn := need_st (caseList L s.patterns.2).2 (t := [101, 115, 97, 99]) (by decide)
        show tot ((caseList L s.patterns.2).2.need _) + wPs (ps ++ [s.patterns.1]) = _
        rw [need_tot ic (.inl (by decide)) he]
        exact key (sn.err ic he) (sn.pre ic hd)
theorem inner_tot {n : Nat} {s : S} (hi : Inv n s) (he : (inner L s (cKind s.hd.text)).2.err = 0) (hd : noDig (inner L s (cKind s.hd.text)).2.ns) :
    tot (inner L s (cKind s.hd.text)).2 + wN (inner L s (cKind s.hd.text)).1 = tot s ∧ (inner L s (cKind s.hd.text)).1.redirs = [] := by
  have hiss : ∀ t : Bs, s.hd.text = t → s.is t = true := fun t h => by unfold S.is; rw [h]; exact beq_self_eq_true t
  have one : ∀ (k : Int) (o c : Bs), isRes o = true ∨ sgTexts.contains o = true → ¬ o = [] → isRes c = true ∨ sgTexts.contains c = true → ¬ c = [] → (listsG L [c] [] (s.need o)).2.err = 0 → noDig (listsG L [c] [] (s.need o)).2.ns → tot (listsG L [c] [] (s.need o)).2 + wN (nd k (listsG L [c] [] (s.need o)).1) = tot s := by
    intro k o c h1 h2 h3 h4 he hd
    have i1 := (need_st s h2 n hi).1
    have e1 := (lists_one hL c [] (s.need o) h4).err i1 he
    rw [wN_nd, listsG_one hL hW i1 h3 h4 he hd, need_tot hi h1 e1]
    rfl
  have two : ∀ (k : Int) (o c d : Bs), isRes o = true → ¬ o = [] → isRes c = true → ¬ c = [] → isRes d = true → ¬ d = [] → (listsG L [c, d] [] (s.need o)).2.err = 0 → noDig (listsG L [c, d] [] (s.need o)).2.ns → tot (listsG L [c, d] [] (s.need o)).2 + wN (nd k (listsG L [c, d] [] (s.need o)).1) = tot s := by
    intro k o c d h1 h2 h3 h4 h5 h6 he hd
    have i1 := (need_st s h2 n hi).1
    have e1 := (lists_two hL c d [] (s.need o) h4 h6).err i1 he
    rw [wN_nd, listsG_two hL hW i1 h3 h4 h5 h6 he hd, need_tot hi (.inl h1) e1]
    rfl
  unfold cKind at *
  split at he
  · rename_i h
    rw [if_pos h] at hd ⊢
    simp only [inner, Int.reduceEq, ↓reduceIte] at he hd ⊢
    exact ⟨one 8 _ _ (.inl (by decide)) (by decide) (.inl (by decide)) (by decide) he hd, by first | rfl | trivial⟩
  rename_i h0; rw [if_neg h0] at hd ⊢
  split at he
  · rename_i h
    rw [if_pos h] at hd ⊢
    simp only [inner, Int.reduceEq, ↓reduceIte] at he hd ⊢
    exact ⟨one 9 _ _ (.inr (by decide)) (by decide) (.inr (by decide)) (by decide) he hd, by first | rfl | trivial⟩
  rename_i h1; rw [if_neg h1] at hd ⊢
  split at he
  · rename_i h
    rw [if_pos h] at hd ⊢
    simp only [inner, Int.reduceEq, ↓reduceIte] at he hd ⊢
    have sb := branG_st hL s.ts.length [105, 102] s (by decide) (hiss _ h)
    have ib := (sb n hi).1
    have sn := need_st (branG L s.ts.length [105, 102] s).2 (t := [102, 105]) (by decide)
    refine ⟨?_, by first | rfl | trivial⟩
    rw [wN_nd, need_tot ib (.inl (by decide)) he, branG_tot hL hW _ _ s n hi (by decide) (by decide) (hiss _ h) (sn.err ib he) (sn.pre ib hd)]
    rfl
  rename_i h2; rw [if_neg h2] at hd ⊢
  split at he
  · rename_i h
    rw [if_pos h] at hd ⊢
    simp only [inner, Int.reduceEq, ↓reduceIte] at he hd ⊢
    exact ⟨two 11 _ _ _ (by decide) (by decide) (by decide) (by decide) (by decide) (by decide) he hd, by first | rfl | trivial⟩
  rename_i h3; rw [if_neg h3] at hd ⊢
  split at he
  · rename_i h
    rw [if_pos h] at hd ⊢
    simp only [inner, Int.reduceEq, ↓reduceIte] at he hd ⊢
    exact ⟨two 12 _ _ _ (by decide) (by decide) (by decide) (by decide) (by decide) (by decide) he hd, by first | rfl | trivial⟩
  rename_i h4; rw [if_neg h4] at hd ⊢
  split at he
  · rename_i h
    rw [if_pos h] at hd ⊢
    simp only [inner, Int.reduceEq, ↓reduceIte] at he hd ⊢
    have i1 := (need_st s (t := [102, 111, 114]) (by decide) n hi).1
    have i2 := (name_st _ n i1).1
    have i3 := (forIn_st _ n i2).1
    have i4 := (need_st _ (t := [100, 111]) (by decide) n i3).1
    have sl := lists_one hL [100, 111, 110, 101] [] ((s.need [102, 111, 114]).name.2.forIn.2.need [100, 111]) (by decide)
    have e4 := sl.err i4 he
    have e3 := (need_st _ (t := [100, 111]) (by decide)).err i3 e4
    have e2 := (forIn_st _).err i2 e3
    have e1 := (name_st _).err i1 e2
    have t1 := need_tot hi (.inl (by decide)) e1
    have t2 := name_tot i1 e2
    have t3 := forIn_tot i2 e3
    have t4 := need_tot i3 (.inl (by decide)) e4
    have t5 := listsG_one hL hW i4 (ks := []) (.inl (by decide)) (by decide) he hd
    have hn := name_ok e2
    refine ⟨?_, by first | rfl | trivial⟩
    have e : wN ⟨13, (s.need [102, 111, 114]).name.1, (s.need [102, 111, 114]).name.2.forIn.1.1, [], (s.need [102, 111, 114]).name.2.forIn.1.2, [], [], (listsG L [[100, 111, 110, 101]] [] ((s.need [102, 111, 114]).name.2.forIn.2.need [100, 111])).1⟩ = nres (s.need [102, 111, 114]).name.1 + wl (s.need [102, 111, 114]).name.2.forIn.1.2 := by
      unfold wN
      dsimp only
      rw [if_neg (by intro e; rw [e] at hn; cases hn)]
      simp [wPs, wRd]
    rw [e]
    omega
  rename_i h5; rw [if_neg h5] at hd ⊢
  split at he
  · rename_i h
    rw [if_pos h] at hd ⊢
    simp only [inner, Int.reduceEq, ↓reduceIte] at he hd ⊢
    have i1 := (caseHead_st s n hi).1
    have e1 := (caseG_st hL _ [] [] _).err i1 he
    have t1 := caseHead_tot hi e1
    have t2 := caseG_tot hL hW _ [] [] _ n i1 he hd
    refine ⟨?_, by first | rfl | trivial⟩
    have e : ∀ (ps : List (List Bs)) (ks : List Int), wN ⟨14, [], false, [], [s.caseHead.1], [], ps, ks⟩ = nres s.caseHead.1 + wPs ps := by
      intro ps ks
      unfold wN
      simp [wl, wRd]
    rw [e]
    have h0 : wPs [] = 0 := rfl
    omega
  rename_i h6; rw [if_neg h6] at hd ⊢
  simp only [inner, Int.reduceEq, ↓reduceIte] at he
  exact (fail_no he).elim
theorem compound_tot {n : Nat} {s : S} (hi : Inv n s) (he : (compound L s).2.err = 0) (hd : noDig (compound L s).2.ns) : tot (compound L s).2 = tot s := by
  unfold compound at *
  dsimp only at he hd ⊢
  rw [add_err] at he
  have s2 := inner_st hL s.enter
  have s3 := ((enter_st s).trans s2).leave (by decide)
  have i1 := (enter_st s n hi).1
  have i2 := (s2 n i1).1
  have i3 := (s3 n hi).1
  have e3 := (redirs_st _).err i3 he
  rw [leave_err] at e3
  have e1 := s2.err i1 e3
  have d4 := (add_st _ _).pre ((redirs_st _ n i3).1) hd
  have d3 := (redirs_st _).pre i3 d4
  obtain ⟨t2, r2⟩ := inner_tot hL hW i1 e3 d3
  have hr : ndR (inner L s.enter (cKind s.enter.hd.text)).2.leave.redirs.1 := by
    refine hd { (inner L s.enter (cKind s.enter.hd.text)).1 with redirs := (inner L s.enter (cKind s.enter.hd.text)).2.leave.redirs.1 } ?_
    unfold S.add
    simp
  have t3 := redirsG_tot _ [] _ n i3 he hr
  have te : tot s.enter = tot s := by
    unfold S.enter at e1 ⊢
    split at e1
    · exact (fail_no e1).elim
    · rename_i h; rw [if_neg h]; rfl
  rw [add_tot]
  have ew : wN { (inner L s.enter (cKind s.enter.hd.text)).1 with redirs := (inner L s.enter (cKind s.enter.hd.text)).2.leave.redirs.1 } = wN (inner L s.enter (cKind s.enter.hd.text)).1 + wRd (inner L s.enter (cKind s.enter.hd.text)).2.leave.redirs.1 := by
    unfold wN
    rw [r2]
    simp [wRd]
  rw [ew]
  have tl : tot (inner L s.enter (cKind s.enter.hd.text)).2.leave = tot (inner L s.enter (cKind s.enter.hd.text)).2 := rfl
  have h0 : wRd [] = 0 := rfl
  have t3' : tot (inner L s.enter (cKind s.enter.hd.text)).2.leave.redirs.2 + wRd (inner L s.enter (cKind s.enter.hd.text)).2.leave.redirs.1 = tot (inner L s.enter (cKind s.enter.hd.text)).2.leave + wRd [] := t3
  omega
theorem function_tot {n : Nat} {s : S} (hi : Inv n s) (he : (function L s).2.err = 0) (hd : noDig (function L s).2.ns) : tot (function L s).2 = tot s := by
  unfold function at *
  dsimp only at he hd ⊢
  rw [add_err, leave_err] at he
  have s2 := name_st s.enter
  have s3 := need_st s.enter.name.2 (t := [40]) (by decide)
  have s4 := need_st (s.enter.name.2.need [40]) (t := [41]) (by decide)
  have s5 := breaks_st ((s.enter.name.2.need [40]).need [41])
  have i1 := (enter_st s n hi).1
  have i2 := (s2 n i1).1
  have i3 := (s3 n i2).1
  have i4 := (s4 n i3).1
  have i5 := (s5 n i4).1
  have s6 := compound_st hL (((s.enter.name.2.need [40]).need [41]).breaks)
  have e5 := s6.err i5 he
  have e4 := s5.err i4 e5
  have e3 := s4.err i3 e4
  have e2 := s3.err i2 e3
  have e1 := s2.err i1 e2
  have t2 := name_tot i1 e2
  have t3 := need_tot i2 (t := [40]) (.inr (by decide)) e3
  have t4 := need_tot i3 (t := [41]) (.inr (by decide)) e4
  have t5 := breaks_tot i4
  have te : tot s.enter = tot s := by
    unfold S.enter at e1 ⊢
    split at e1
    · exact (fail_no e1).elim
    · rename_i h; rw [if_neg h]; rfl
  have hn := name_ok e2
  have hc := compound_tot hL hW i5 he
  clear s2 s3 s4 s5 i1 i2 i3 i4 i5 s6 e1 e2 e3 e4 e5 he
  generalize compound L (((s.enter.name.2.need [40]).need [41]).breaks) = c at *
  generalize s.enter.name.1 = q at *
  have dc : noDig c.2.ns := hd.pre (by show c.2.ns <+: c.2.ns ++ _; exact List.prefix_append _ _)
  have t6 := hc dc
  rw [add_tot]
  have tl : tot c.2.leave = tot c.2 := rfl
  have ew : wN ⟨15, q, false, [], [], [], [], [c.1]⟩ = nres q := by
    unfold wN
    dsimp only
    rw [if_neg (by intro e; rw [e] at hn; cases hn)]
    simp [wPs, wRd, wl]
  rw [ew]
  omega
theorem command_tot {n : Nat} {s : S} (hi : Inv n s) (he : (command L s).2.err = 0) (hd : noDig (command L s).2.ns) : tot (command L s).2 = tot s := by
  unfold command at *
  split at he
  · rename_i h
    rw [if_pos h] at hd ⊢
    split at he
    · rename_i h'
      rw [if_pos h'] at hd ⊢
      exact function_tot hL hW hi he hd
    · rename_i h'
      rw [if_neg h'] at hd ⊢
      exact simple_tot hi he hd
  · rename_i h
    rw [if_neg h] at hd ⊢
    exact compound_tot hL hW hi he hd
theorem pipeG_tot : ∀ (k : Nat) (l : List Int) (s : S) (n : Nat), Inv n s → (pipeG L k l s).2.err = 0 → noDig (pipeG L k l s).2.ns → tot (pipeG L k l s).2 = tot s := by
  intro k
  induction k with
  | zero => intro l s n hi he hd; rfl
  | succ k ih =>
    intro l s n hi he hd
    unfold pipeG at he hd ⊢
    split at he
    · rename_i h
      rw [if_pos h] at hd ⊢
      have ia := (adv_is (by decide) h n hi).1
      have ib := (breaks_st _ n ia).1
      have sc := command_st hL s.adv.breaks
      have ic := (sc n ib).1
      have sp := pipeG_st hL k (l ++ [(command L s.adv.breaks).1]) (command L s.adv.breaks).2
      rw [ih _ _ n ic he hd, command_tot hL hW ib (sp.err ic he) (sp.pre ic hd), breaks_tot ia, adv_tot hi h (.inr (by decide))]
    · rename_i h
      rw [if_neg h]
theorem pipe_tot {n : Nat} {s : S} (hi : Inv n s) (he : (pipe L s).2.err = 0) (hd : noDig (pipe L s).2.ns) : tot (pipe L s).2 = tot s := by
  unfold pipe at *
  dsimp only at he hd ⊢
  have i1 := (may_st s (t := [33]) (by decide) n hi).1
  have i2 := (command_st hL (s.may [33]) n i1).1
  have s3 := pipeG_st hL (command L (s.may [33])).2.ts.length [(command L (s.may [33])).1] (command L (s.may [33])).2
  have i3 := (s3 n i2).1
  have t3 := fun e d => pipeG_tot hL hW (command L (s.may [33])).2.ts.length [(command L (s.may [33])).1] (command L (s.may [33])).2 n i2 e d
  have t2 := fun e d => command_tot hL hW i1 e d
  have t1 := may_tot hi (t := [33]) (.inl (by decide))
  have e23 := fun e => s3.err i2 e
  have d23 := fun d => s3.pre i2 d
  generalize pipeG L (command L (s.may [33])).2.ts.length [(command L (s.may [33])).1] (command L (s.may [33])).2 = q at *
  have s4 := whole_st q.2 q.1
  have i4 := (s4 n i3).1
  have s5 := notP_st (q.2.whole q.1).2 (s.is [33]) (q.2.whole q.1).1
  have e4 := s5.err i4 he
  have d4 := s5.pre i4 hd
  have e3 := s4.err i3 e4
  have d3 := s4.pre i3 d4
  have h3 := t3 e3 d3
  have h2 := t2 (e23 e3) (d23 d3)
  have h4 : tot (q.2.whole q.1).2 = tot q.2 := by
    unfold S.whole
    split
    · rw [add_tot, wN_nd, Nat.add_zero]
    · rfl
  have h5 : tot ((q.2.whole q.1).2.notP (s.is [33]) (q.2.whole q.1).1).2 = tot (q.2.whole q.1).2 := by
    unfold S.notP
    split
    · rw [add_tot, wN_nd, Nat.add_zero]
    · rfl
  omega
theorem andG_tot : ∀ (k : Nat) (i : Int) (s : S) (n : Nat), Inv n s → (andG L k i s).2.err = 0 → noDig (andG L k i s).2.ns → tot (andG L k i s).2 = tot s := by
  intro k
  induction k with
  | zero => intro i s n hi he hd; rfl
  | succ k ih =>
    intro i s n hi he hd
    have go : ∀ (t : Bs) (m : Int), s.is t = true → ¬ t = [] → sgTexts.contains t = true → (andG L k ((pipe L s.adv.breaks).2.add (nd m [i, (pipe L s.adv.breaks).1])).1 ((pipe L s.adv.breaks).2.add (nd m [i, (pipe L s.adv.breaks).1])).2).2.err = 0 →
        noDig (andG L k ((pipe L s.adv.breaks).2.add (nd m [i, (pipe L s.adv.breaks).1])).1 ((pipe L s.adv.breaks).2.add (nd m [i, (pipe L s.adv.breaks).1])).2).2.ns →
        tot (andG L k ((pipe L s.adv.breaks).2.add (nd m [i, (pipe L s.adv.breaks).1])).1 ((pipe L s.adv.breaks).2.add (nd m [i, (pipe L s.adv.breaks).1])).2).2 = tot s := by
      intro t m h h0 hs he hd
      have ia := (adv_is h0 h n hi).1
      have ib := (breaks_st _ n ia).1
      have sp := pipe_st hL s.adv.breaks
      have ip := (sp n ib).1
      have sa := add_st (pipe L s.adv.breaks).2 (nd m [i, (pipe L s.adv.breaks).1])
      have iq := (sa n ip).1
      have sg := andG_st hL k ((pipe L s.adv.breaks).2.add (nd m [i, (pipe L s.adv.breaks).1])).1 ((pipe L s.adv.breaks).2.add (nd m [i, (pipe L s.adv.breaks).1])).2
      rw [ih _ _ n iq he hd, add_tot, wN_nd, Nat.add_zero, pipe_tot hL hW ib (sa.err ip (sg.err iq he)) (sa.pre ip (sg.pre iq hd)), breaks_tot ia, adv_tot hi h (.inr hs)]
    unfold andG at he hd ⊢
    split at he
    · rename_i h
      rw [if_pos h] at hd ⊢
      exact go _ 5 h (by decide) (by decide) he hd
    · rename_i h
      rw [if_neg h] at hd ⊢
      split at he
      · rename_i h'
        rw [if_pos h'] at hd ⊢
        exact go _ 4 h' (by decide) (by decide) he hd
      · rename_i h'
        rw [if_neg h']
theorem item_tot {n : Nat} {s : S} (hi : Inv n s) (he : (item L s).2.err = 0) (hd : noDig (item L s).2.ns) : tot (item L s).2 = tot s := by
  unfold item at *
  dsimp only at he hd ⊢
  have ip := (pipe_st hL s n hi).1
  have sg := andG_st hL (pipe L s).2.ts.length (pipe L s).1 (pipe L s).2
  rw [andG_tot hL hW _ _ _ n ip he hd]
  exact pipe_tot hL hW hi (sg.err ip he) (sg.pre ip hd)
omit hL hW in
theorem backed_tot {n : Nat} {s : S} (hi : Inv n s) (i : Int) : tot (backed s i).2 = tot s := by
  unfold backed
  split
  · rename_i h
    rw [add_tot, wN_nd, Nat.add_zero]
    exact adv_tot hi h (.inr (by decide))
  · rfl
omit hL hW in
theorem seps_tot {n : Nat} {s : S} (hi : Inv n s) (b : Bool) : tot (s.seps b).2 = tot s := by
  unfold S.seps
  split
  · rfl
  · split
    · rename_i h; exact adv_tot hi h (.inr (by decide))
    · split
      · rename_i h; exact adv_tot hi h (.inr (by decide))
      · rfl
theorem itemsG_tot : ∀ (k : Nat) (l : List Int) (b : Bool) (s : S) (n : Nat), Inv n s → (itemsG L k l b s).2.err = 0 → noDig (itemsG L k l b s).2.ns → tot (itemsG L k l b s).2 = tot s := by
  intro k
  induction k with
  | zero => intro l b s n hi he hd; rfl
  | succ k ih =>
    intro l b s n hi he hd
    unfold itemsG at he hd ⊢
    dsimp only at he hd ⊢
    have i1 := (item_st hL s n hi).1
    have s2 := backed_st (item L s).2 (item L s).1
    have i2 := (s2 n i1).1
    have s3 := seps_st (backed (item L s).2 (item L s).1).2 ((item L s).2.is [38])
    have i3 := (s3 n i2).1
    have i4 := (breaks_st _ n i3).1
    have key : ((backed (item L s).2 (item L s).1).2.seps ((item L s).2.is [38])).2.breaks.err = 0 → noDig ((backed (item L s).2 (item L s).1).2.seps ((item L s).2.is [38])).2.breaks.ns → tot ((backed (item L s).2 (item L s).1).2.seps ((item L s).2.is [38])).2.breaks = tot s := by
      intro e d
      have e3 := (breaks_st _).err i3 e
      have d3 := (breaks_st _).pre i3 d
      rw [breaks_tot i3, seps_tot i2, backed_tot i1]
      exact item_tot hL hW hi (s2.err i1 (s3.err i2 e3)) (s2.pre i1 (s3.pre i2 d3))
    split at he
    · rename_i h
      rw [if_pos h] at hd ⊢
      have sg := itemsG_st hL k (l ++ [(backed (item L s).2 (item L s).1).1]) ((item L s).2.is [38]) ((backed (item L s).2 (item L s).1).2.seps ((item L s).2.is [38])).2.breaks
      rw [ih _ _ _ n i4 he hd]
      exact key (sg.err i4 he) (sg.pre i4 hd)
    · rename_i h
      rw [if_neg h] at hd ⊢
      exact key he hd
theorem list1_tot : Lcw (list1 L) := by
  intro n s hi he hd
  unfold list1 at *
  dsimp only at he hd ⊢
  have i1 := (breaks_st s n hi).1
  have s2 := itemsG_st hL s.breaks.ts.length [] false s.breaks
  have i2 := (s2 n i1).1
  have t2 := itemsG_tot hL hW s.breaks.ts.length [] false s.breaks n i1
  generalize itemsG L s.breaks.ts.length [] false s.breaks = q at *
  have s3 := seqs_st q.2 q.1.1 q.1.2
  have h3 : tot (q.2.seqs q.1.1 q.1.2).2 = tot q.2 := by
    unfold S.seqs
    split
    · rfl
    · rw [add_tot, wN_nd, Nat.add_zero]
  rw [h3, t2 (s3.err i2 he) (s3.pre i2 hd), breaks_tot hi]
end
theorem listD_tot : ∀ d, Lcw (listD d) := by
  intro d
  induction d with
  | zero => intro n s hi he hd; unfold listD at he hd ⊢; exact list1_tot (L := fun s => (0, s)) (fun s => (St.refl s).le (by decide)) (fun n s _ _ _ => rfl) n s hi he hd
  | succ d ih => intro n s hi he hd; unfold listD at he hd ⊢; exact list1_tot (listD_st d) ih n s hi he hd
/-- the words of a text that has nodes. -/
theorem parseT_words {ts : List Tk} {n : Nat} (hg : Good n ts) (he : (parseT ts).2.2 = 0) (hd : noDig (parseT ts).1) : wT ts = wNs (parseT ts).1 := by
  unfold parseT at *
  dsimp only at he hd ⊢
  have hi : Inv n ⟨ts, [], 0, 0, 0⟩ := ⟨hg, fun h => absurd rfl h, Nat.zero_le _⟩
  split at he
  · rename_i h; exact absurd he h
  · rename_i h
    rw [if_neg h] at hd ⊢
    split at he
    · cases he
    · rename_i h3
      rw [if_neg h3] at hd ⊢
      have h0 : (script ⟨ts, [], 0, 0, 0⟩).err = 0 := by
        by_cases e : (script ⟨ts, [], 0, 0, 0⟩).err = 0
        · exact e
        · exact absurd e h
      have hsc := (script_st ⟨ts, [], 0, 0, 0⟩ n hi).1
      have hd' : noDig (script ⟨ts, [], 0, 0, 0⟩).ns := hd
      show wT ts = wNs (script ⟨ts, [], 0, 0, 0⟩).ns
      clear hd he h h3
      unfold script at h0 hd' hsc ⊢
      dsimp only at h0 hd' hsc ⊢
      have ib := (breaks_st ⟨ts, [], 0, 0, 0⟩ n hi).1
      have hlast : ∀ t : S, (if t.hd.kind = 4 then t else t.fail).err = 0 → (if t.hd.kind = 4 then t else t.fail) = t ∧ t.hd.kind = 4 := by
        intro t h
        split at h
        · rename_i h'; rw [if_pos h']; exact ⟨rfl, h'⟩
        · exact (fail_no h).elim
      obtain ⟨q1, q2⟩ := hlast _ h0
      rw [q1] at hd' h0 hsc ⊢
      have e0 : tot ⟨ts, [], 0, 0, 0⟩ = wT ts := by unfold tot; simp [wNs]
      have key : tot (if bItem (S.breaks ⟨ts, [], 0, 0, 0⟩).hd = true then (listD 25 (S.breaks ⟨ts, [], 0, 0, 0⟩)).2 else S.breaks ⟨ts, [], 0, 0, 0⟩) = wT ts := by
        split
        · rename_i hb
          rw [if_pos hb] at h0 hd'
          rw [listD_tot 25 n _ ib h0 hd', breaks_tot hi, e0]
        · rw [breaks_tot hi, e0]
      generalize (if bItem (S.breaks ⟨ts, [], 0, 0, 0⟩).hd = true then (listD 25 (S.breaks ⟨ts, [], 0, 0, 0⟩)).2 else S.breaks ⟨ts, [], 0, 0, 0⟩) = t at *
      rcases hsc.next with ⟨k1, k2, k3, k4⟩ | ⟨_, u, r, _, hg, _⟩
      · unfold tot at key
        rw [k4] at key
        simp [wT, wTk, k1] at key
        simp [wT]
        exact key.symm
      · rcases hg.kind with k | k | k <;> rw [q2] at k <;> cases k
end Go.Proofs.Ytoahgblgchmclaa
