/- Two runs of the parser side by side: the grammar. -/
import Derived.Test.YtoahgblgchmclaaRA
namespace Go.Proofs.Ytoahgblgchmclaa
set_option linter.unusedVariables false
set_option linter.unusedSimpArgs false
set_option linter.unusedSectionVars false
/-- at the end nothing more can be read. -/
theorem simple_end {n : Nat} {s : S} (hi : Inv n s) (he : s.simple.2.err = 0) : ¬ s.hd.kind = 4 := by
  intro h4
  have hx := hi.empty h4
  have hG : ∀ k, simpG k (nd 1 []) s = (nd 1 [], s) := by
    intro k
    cases k with
    | zero => rfl
    | succ k =>
      unfold simpG
      have h1 : bRedir s.hd = false := by unfold bRedir; rw [hx, h4]; decide
      have h2 : isSetB s.hd.text = false := by rw [hx]; decide
      have h3 : bFirst s.hd = false := by unfold bFirst; rw [h4]; rfl
      rw [h1, h2, h3, h4]
      rfl
  unfold S.simple at he
  rw [hG] at he
  exact fail_no he
theorem command_end {L : S → Int × S} {n : Nat} {s : S} (hi : Inv n s) (he : (command L s).2.err = 0) : ¬ s.hd.kind = 4 := by
  intro h4
  have hx := hi.empty h4
  unfold command at he
  rw [hx, if_pos (by decide)] at he
  have hf : s.bFun = false := by unfold S.bFun; rw [hx]; rfl
  rw [hf, if_neg (by decide)] at he
  exact simple_end hi he h4
theorem compound_end {L : S → Int × S} (hL : Lst L) {n : Nat} {s : S} (hi : Inv n s) (he : (compound L s).2.err = 0) : ¬ s.hd.kind = 4 := by
  intro h4
  have i1 := (enter_st s n hi).1
  have s2 := inner_st hL s.enter
  have i3 := (((enter_st s).trans s2).leave (by decide) n hi).1
  have hr : (inner L s.enter (cKind s.enter.hd.text)).2.leave.redirs.2.err = 0 := he
  have e3 : (inner L s.enter (cKind s.enter.hd.text)).2.leave.err = 0 := (redirs_st _).err i3 hr
  have e2 : (inner L s.enter (cKind s.enter.hd.text)).2.err = 0 := e3
  have h5 := (enter_st s).fin hi h4
  have hx := i1.empty h5
  rw [hx, show cKind [] = 0 from by decide] at e2
  unfold inner at e2
  simp only [Int.reduceEq, ↓reduceIte] at e2
  exact fail_no e2
theorem caseG_end {L : S → Int × S} (hL : Lst L) {n k : Nat} {ps : List (List Bs)} {ks : List Int} {s : S} (hi : Inv n s) (hk : 0 < k) (he : (caseG L k ps ks s).2.err = 0) : ¬ s.hd.kind = 4 := by
  intro h4
  have hx := hi.empty h4
  obtain ⟨k, rfl⟩ : ∃ j, k = j + 1 := ⟨k - 1, by omega⟩
  have ip := (patterns_st s n hi).1
  have sc := caseList_st hL s.patterns.2
  have ic := (sc n ip).1
  have ep : s.patterns.2.err = 0 := by
    unfold caseG at he
    rw [if_neg (by unfold S.is; rw [hx]; decide)] at he
    dsimp only at he
    refine sc.err ip ?_
    split at he
    · rename_i h2
      have sa := adv_is (by decide) h2
      have ia := (sa n ic).1
      have ib := (breaks_st _ n ia).1
      exact sa.err ic ((breaks_st _).err ia ((caseG_st hL _ _ _ _).err ib he))
    · exact (need_st _ (t := [101, 115, 97, 99]) (by decide)).err ic he
  have hm : s.may [40] = s := by unfold S.may; rw [if_neg (by unfold S.is; rw [hx]; decide)]
  have i1 := (may_st s (t := [40]) (by decide) n hi).1
  have i2 := (word_st _ n i1).1
  have s3 := patG_st (s.may [40]).word.2.ts.length [(s.may [40]).word.1] (s.may [40]).word.2
  have i3 := (s3 n i2).1
  have e3 : (patG (s.may [40]).word.2.ts.length [(s.may [40]).word.1] (s.may [40]).word.2).2.err = 0 := (need_st _ (t := [41]) (by decide)).err i3 ep
  have e2 := s3.err i2 e3
  rw [hm] at e2
  unfold S.word at e2
  rw [if_neg (by rw [h4]; decide)] at e2
  exact fail_no e2
theorem bItem_end {n : Nat} {s : S} (hi : Inv n s) (h : bItem s.hd = true) : ¬ s.hd.kind = 4 := by
  intro h4
  have hx := hi.empty h4
  unfold bItem bRedir bFirst at h
  rw [hx, h4] at h
  revert h
  decide
theorem pipe_end {L : S → Int × S} (hL : Lst L) {n : Nat} {s : S} (hi : Inv n s) (he : (pipe L s).2.err = 0) : ¬ s.hd.kind = 4 := by
  intro h4
  have hx := hi.empty h4
  have hm : s.may [33] = s := by unfold S.may; rw [if_neg (by unfold S.is; rw [hx]; decide)]
  unfold pipe at he
  dsimp only at he
  have i1 := (may_st s (t := [33]) (by decide) n hi).1
  have i2 := (command_st hL (s.may [33]) n i1).1
  have s3 := pipeG_st hL (command L (s.may [33])).2.ts.length [(command L (s.may [33])).1] (command L (s.may [33])).2
  have i3 := (s3 n i2).1
  have s4 := whole_st (pipeG L (command L (s.may [33])).2.ts.length [(command L (s.may [33])).1] (command L (s.may [33])).2).2 (pipeG L (command L (s.may [33])).2.ts.length [(command L (s.may [33])).1] (command L (s.may [33])).2).1
  have e2 := s3.err i2 (s4.err i3 ((notP_st _ _ _).err (s4 n i3).1 he))
  rw [hm] at e2
  exact command_end hi e2 h4
theorem item_end {L : S → Int × S} (hL : Lst L) {n : Nat} {s : S} (hi : Inv n s) (he : (item L s).2.err = 0) : ¬ s.hd.kind = 4 := by
  unfold item at he
  dsimp only at he
  exact pipe_end hL hi ((andG_st hL _ _ _).err (pipe_st hL s n hi).1 he)
theorem map_head {m : Nat} {l : List Int} (h : 0 < l.length) : (l.map (sI m)).headD 0 = sI m (l.headD 0) := by
  cases l with
  | nil => simp at h
  | cons a r => rfl
theorem shN_nd (m : Nat) (k : Int) (ks : List Int) : shN m (nd k ks) = nd k (ks.map (sI m)) := rfl
def LTw (c : Ctx) (o : Nat) (L : S → Int × S) : Prop := ∀ n s t, InO n o 25 s → Tw c s t → (L s).2.err = 0 → (c.q = true ∨ ¬ (L s).2.hd.kind = 4) → Tw c (L s).2 (L t).2 ∧ (L t).1 = sI c.m (L s).1
section
variable {c : Ctx} (hc : c.ok) {L : S → Int × S} {o : Nat} (hL : Lst L) (hT : LTw c (o + 1) L)
include hc hL hT
omit hc hT in
theorem listsG_er : ∀ (ws : List Bs) (ks : List Int) (s : S) (n : Nat), Inv n s → (∀ w ∈ ws, ¬ w = []) → (listsG L ws ks s).2.err = 0 → s.err = 0 := by
  intro ws
  induction ws with
  | nil => intro ks s n _ _ h; exact h
  | cons w r ih =>
    intro ks s n hi hw he
    unfold listsG at he
    have hwn := hw w (by simp)
    have i1 := (hL s n hi).1
    have i2 := (need_st (L s).2 hwn n i1).1
    exact (hL s).err hi ((need_st (L s).2 hwn).err i1 (ih _ _ n i2 (fun x hx => hw x (by simp [hx])) he))
theorem listsG_tw : ∀ (ws : List Bs) (ks kt : List Int) (s t : S) (n : Nat), InO n (o + 1) 25 s → (∀ w ∈ ws, ¬ w = []) → Tw c s t → kt = ks.map (sI c.m) → (listsG L ws ks s).2.err = 0 →
    Tw c (listsG L ws ks s).2 (listsG L ws kt t).2 ∧ (listsG L ws kt t).1 = (listsG L ws ks s).1.map (sI c.m) := by
  intro ws
  induction ws with
  | nil => intro ks kt s t n hi _ h hk he; exact ⟨h, hk⟩
  | cons w r ih =>
    intro ks kt s t n hi hw h hk he
    unfold listsG at he ⊢
    have hwn := hw w (by simp)
    have i1 := (hL s).io hi
    have i2 := (need_st (L s).2 hwn).io i1
    have e1 := listsG_er hL _ _ _ n i2.1 (fun x hx => hw x (by simp [hx])) he
    have e0 := (need_st (L s).2 hwn).erq i1 e1
    obtain ⟨h1, h2⟩ := hT n s t hi h e0 (.inr (i1.1.isN hwn (need_ok e1).1))
    exact ih _ _ _ _ n i2 (fun x hx => hw x (by simp [hx])) (h1.need i1.1 hwn e1) (by rw [hk, h2, List.map_append]; rfl) he
theorem branG_tw : ∀ (k : Nat) (w : Bs) (s t : S) (k' n : Nat), InO n (o + 1) 25 s → ¬ w = [] → s.is w = true → s.ts.length ≤ k → k ≤ k' → Tw c s t → (branG L k w s).2.err = 0 → (c.q = true ∨ ¬ (branG L k w s).2.hd.kind = 4) →
    Tw c (branG L k w s).2 (branG L k' w t).2 ∧ (branG L k' w t).1 = (branG L k w s).1.map (sI c.m) := by
  intro k
  induction k with
  | zero => intro w s t k' n hi _ _ hk; have := hi.1.good.ne; omega
  | succ k ih =>
    intro w s t k' n hi hw his hk hk' h he hp
    obtain ⟨k', rfl⟩ : ∃ j, k' = j + 1 := ⟨k' - 1, by omega⟩
    unfold branG at he hp ⊢
    dsimp only at he hp ⊢
    have s1 := need_is hw his
    have i1 := s1.io hi
    have i2 := (hL _).io i1
    have s3 : St 0 0 (L (s.need w)).2 ((L (s.need w)).2.need [116, 104, 101, 110]) := need_st _ (by decide)
    have i3 := s3.io i2
    have i4 := (hL _).io i3
    have hlen : (L ((L (s.need w)).2.need [116, 104, 101, 110])).2.ts.length ≤ k := by
      have h1 := s1.lt (by decide) hi.1
      have h2 := (hL _).len i1.1
      have h3 := s3.len i2.1
      have h4 := (hL _).len i3.1
      omega
    have key : (L ((L (s.need w)).2.need [116, 104, 101, 110])).2.err = 0 → (c.q = true ∨ ¬ (L ((L (s.need w)).2.need [116, 104, 101, 110])).2.hd.kind = 4) →
        Tw c (L ((L (s.need w)).2.need [116, 104, 101, 110])).2 (L ((L (t.need w)).2.need [116, 104, 101, 110])).2 ∧ (L (t.need w)).1 = sI c.m (L (s.need w)).1 ∧ (L ((L (t.need w)).2.need [116, 104, 101, 110])).1 = sI c.m (L ((L (s.need w)).2.need [116, 104, 101, 110])).1 := by
      intro e4 hp4
      have e3 := (hL _).erq i3 e4
      have e2 := s3.erq i2 e3
      have e1 := (hL _).erq i1 e2
      have h1 := h.need hi.1 hw e1
      obtain ⟨h2, h2b⟩ := hT n _ _ i1 h1 e2 (.inr (i2.1.isN (by decide) (need_ok e3).1))
      have h3 := h2.need i2.1 (w := [116, 104, 101, 110]) (by decide) e3
      obtain ⟨h4, h4b⟩ := hT n _ _ i3 h3 e4 hp4
      exact ⟨h4, h2b, h4b⟩
    generalize L ((L (s.need w)).2.need [116, 104, 101, 110]) = q at *
    generalize L ((L (t.need w)).2.need [116, 104, 101, 110]) = q' at *
    split at he
    · rename_i hE
      rw [if_pos hE] at hp ⊢
      have hb := branG_st hL k _ _ (by decide) hE
      have heb : (branG L k [101, 108, 105, 102] q.2).2.err = 0 := he
      obtain ⟨h4, h4a, h4b⟩ := key (hb.erq i4 heb) (.inr (i4.1.isN (by decide) hE))
      rw [if_pos (h4.isT i4.1 (by decide) hE).1]
      obtain ⟨h5, h6⟩ := ih _ _ _ k' n i4 (by decide) hE hlen (by omega) h4 heb hp
      obtain ⟨h7, h8⟩ := h5.add (x := nd 10 (branG L k [101, 108, 105, 102] q.2).1) (y := nd 10 (branG L k' [101, 108, 105, 102] q'.2).1) (by rw [shN_nd, h6])
      exact ⟨h7, by rw [h4a, h4b, h8]; rfl⟩
    · rename_i hE
      rw [if_neg hE] at hp ⊢
      split at he
      · rename_i hF
        rw [if_pos hF] at hp ⊢
        have ha := adv_is (by decide) hF
        have ia := ha.io i4
        have hea := (hL _).erq ia he
        obtain ⟨h4, h4a, h4b⟩ := key (ha.erq i4 hea) (.inr (i4.1.isN (by decide) hF))
        have hE' : ¬ q'.2.is [101, 108, 105, 102] = true := by rw [h4.isEq hc i4.1 (by decide) (by decide)]; exact hE
        obtain ⟨hF', h5⟩ := h4.isT i4.1 (by decide) hF
        rw [if_neg hE', if_pos hF']
        obtain ⟨h6, h7⟩ := hT n _ _ ia h5 he hp
        exact ⟨h6, by rw [h4a, h4b, h7]; rfl⟩
      · rename_i hF
        rw [if_neg hF] at hp ⊢
        obtain ⟨h4, h4a, h4b⟩ := key he hp
        have hE' : ¬ q'.2.is [101, 108, 105, 102] = true := by rw [h4.isEq hc i4.1 (by decide) (by decide)]; exact hE
        have hF' : ¬ q'.2.is [101, 108, 115, 101] = true := by rw [h4.isEq hc i4.1 (by decide) (by decide)]; exact hF
        rw [if_neg hE', if_neg hF']
        exact ⟨h4, by rw [h4a, h4b]; rfl⟩
theorem caseList_tw {n : Nat} {s t : S} (hi : InO n (o + 1) 25 s) (h : Tw c s t) (he : (caseList L s).2.err = 0) (hp : c.q = true ∨ ¬ (caseList L s).2.hd.kind = 4) :
    Tw c (caseList L s).2 (caseList L t).2 ∧ (caseList L t).1 = sI c.m (caseList L s).1 := by
  unfold caseList at *
  have ib := (breaks_st s).io hi
  cases hb : bItem s.breaks.hd with
  | true =>
    rw [hb, if_pos rfl] at he hp
    have h1 := h.breaks hc hi.1 (.inr (bItem_end ib.1 hb))
    rw [h1.bItem hc ib.1, hb, if_pos rfl, if_pos rfl]
    exact hT n _ _ ib h1 he hp
  | false =>
    rw [hb, if_neg (by decide)] at he hp
    have h1 := h.breaks hc hi.1 hp
    rw [h1.bItem hc ib.1, hb, if_neg (by decide), if_neg (by decide)]
    exact ⟨h1, rfl⟩
theorem caseG_tw : ∀ (k : Nat) (ps : List (List Bs)) (ks kt : List Int) (s t : S) (k' n : Nat), InO n (o + 1) 25 s → s.ts.length ≤ k → k ≤ k' → Tw c s t → kt = ks.map (sI c.m) → (caseG L k ps ks s).2.err = 0 →
    Tw c (caseG L k ps ks s).2 (caseG L k' ps kt t).2 ∧ (caseG L k' ps kt t).1.1 = (caseG L k ps ks s).1.1 ∧ (caseG L k' ps kt t).1.2 = (caseG L k ps ks s).1.2.map (sI c.m) := by
  intro k
  induction k with
  | zero => intro ps ks kt s t k' n hi hk; have := hi.1.good.ne; omega
  | succ k ih =>
    intro ps ks kt s t k' n hi hk hk' h hkt he
    obtain ⟨k', rfl⟩ : ∃ j, k' = j + 1 := ⟨k' - 1, by omega⟩
    unfold caseG at he ⊢
    rw [h.isEq hc hi.1 (w := [101, 115, 97, 99]) (by decide) (by decide)]
    split at he
    · rename_i hE
      rw [if_pos hE, if_pos hE]
      exact ⟨(h.isT hi.1 (by decide) hE).2, rfl, hkt⟩
    · rename_i hE
      rw [if_neg hE, if_neg hE]
      dsimp only at he ⊢
      have ip := (patterns_st s).io hi
      have sc := caseList_st hL s.patterns.2
      have ic := sc.io ip
      have key : (caseList L s.patterns.2).2.err = 0 → ¬ (caseList L s.patterns.2).2.hd.kind = 4 → t.patterns.1 = s.patterns.1 ∧ Tw c (caseList L s.patterns.2).2 (caseList L t.patterns.2).2 ∧ (caseList L t.patterns.2).1 = sI c.m (caseList L s.patterns.2).1 := by
        intro e1 hp1
        have e0 := sc.erq ip e1
        obtain ⟨h1, h1b⟩ := h.patterns hc hi.1 e0
        exact ⟨h1b, caseList_tw hc hL hT ip h1 e1 (.inr hp1)⟩
      split at he
      · rename_i h2
        rw [if_pos h2]
        have sa := adv_is (by decide) h2
        have ia := sa.io ic
        have ib := (breaks_st _).io ia
        have l1 := (patterns_st s).len hi.1
        have l2 := sc.len ip.1
        have l3 := sa.lt (by decide) ic.1
        have l4 := (breaks_st _).len ia.1
        have heb := (caseG_st hL _ _ _ _).erq ib he
        have hec := sa.erq ic ((breaks_st _).erq ia heb)
        obtain ⟨hq, h3, h4⟩ := key hec (ic.1.isN (by decide) h2)
        obtain ⟨h5, h6⟩ := h3.isT ic.1 (by decide) h2
        rw [if_pos h5, hq]
        have hk0 : 0 < k := by have := ib.1.good.ne; omega
        have h7 := h6.breaks hc ia.1 (.inr (caseG_end hL ib.1 hk0 he))
        exact ih _ _ _ _ _ k' n ib (by omega) (by omega) h7 (by rw [hkt, h4, List.map_append]; rfl) he
      · rename_i h2
        rw [if_neg h2]
        obtain ⟨h3, h4⟩ := need_ok he
        have hec : (caseList L s.patterns.2).2.err = 0 := (need_st _ (t := [101, 115, 97, 99]) (by decide)).erq ic he
        obtain ⟨hq, h5, h6⟩ := key hec (ic.1.isN (by decide) h3)
        have h7 : ¬ (caseList L t.patterns.2).2.is [59, 59] = true := by rw [h5.isEq hc ic.1 (by decide) (by decide)]; exact h2
        rw [if_neg h7]
        exact ⟨h5.need ic.1 (by decide) he, by rw [hq], by rw [hkt, h6, List.map_append]; rfl⟩
theorem inner_tw (n : Nat) (s t : S) (hi : InO n (o + 1) 25 s) (h : Tw c s t) (he : (inner L s (cKind s.hd.text)).2.err = 0) :
    Tw c (inner L s (cKind s.hd.text)).2 (inner L t (cKind t.hd.text)).2 ∧ (inner L t (cKind t.hd.text)).1 = shN c.m (inner L s (cKind s.hd.text)).1 := by
  rw [h.cKind hc hi.1]
  have hiss : ∀ t : Bs, s.hd.text = t → s.is t = true := fun t h => by unfold S.is; rw [h]; exact beq_self_eq_true t
  unfold cKind at *
  split at he
  · rename_i h0
    rw [if_pos h0]
    simp only [inner, Int.reduceEq, ↓reduceIte] at he ⊢
    have i1 := (need_st s (t := [123]) (by decide)).io hi
    have e1 := listsG_er hL _ _ _ n i1.1 (by decide) he
    obtain ⟨q1, q2⟩ := listsG_tw hc hL hT [[125]] [] [] _ _ n i1 (by decide) (h.need hi.1 (by decide) e1) rfl he
    exact ⟨q1, by rw [q2]; rfl⟩
  rename_i h0; rw [if_neg h0]
  split at he
  · rename_i h1
    rw [if_pos h1]
    simp only [inner, Int.reduceEq, ↓reduceIte] at he ⊢
    have i1 := (need_st s (t := [40]) (by decide)).io hi
    have e1 := listsG_er hL _ _ _ n i1.1 (by decide) he
    obtain ⟨q1, q2⟩ := listsG_tw hc hL hT [[41]] [] [] _ _ n i1 (by decide) (h.need hi.1 (by decide) e1) rfl he
    exact ⟨q1, by rw [q2]; rfl⟩
  rename_i h1; rw [if_neg h1]
  split at he
  · rename_i h2
    rw [if_pos h2]
    simp only [inner, Int.reduceEq, ↓reduceIte] at he ⊢
    have sb := branG_st hL s.ts.length [105, 102] s (by decide) (hiss _ h2)
    have ib := sb.io hi
    have heb := (need_st _ (t := [102, 105]) (by decide)).erq ib he
    obtain ⟨b1, b2⟩ := branG_tw hc hL hT _ [105, 102] s t t.ts.length n hi (by decide) (hiss _ h2) (Nat.le_refl _) (h.len hi.1) h heb (.inr (ib.1.isN (by decide) (need_ok he).1))
    exact ⟨b1.need ib.1 (by decide) he, by rw [b2]; rfl⟩
  rename_i h2; rw [if_neg h2]
  split at he
  · rename_i h3
    rw [if_pos h3]
    simp only [inner, Int.reduceEq, ↓reduceIte] at he ⊢
    have i1 := (need_st s (t := [119, 104, 105, 108, 101]) (by decide)).io hi
    have e1 := listsG_er hL _ _ _ n i1.1 (by decide) he
    obtain ⟨q1, q2⟩ := listsG_tw hc hL hT [[100, 111], [100, 111, 110, 101]] [] [] _ _ n i1 (by decide) (h.need hi.1 (by decide) e1) rfl he
    exact ⟨q1, by rw [q2]; rfl⟩
  rename_i h3; rw [if_neg h3]
  split at he
  · rename_i h4
    rw [if_pos h4]
    simp only [inner, Int.reduceEq, ↓reduceIte] at he ⊢
    have i1 := (need_st s (t := [117, 110, 116, 105, 108]) (by decide)).io hi
    have e1 := listsG_er hL _ _ _ n i1.1 (by decide) he
    obtain ⟨q1, q2⟩ := listsG_tw hc hL hT [[100, 111], [100, 111, 110, 101]] [] [] _ _ n i1 (by decide) (h.need hi.1 (by decide) e1) rfl he
    exact ⟨q1, by rw [q2]; rfl⟩
  rename_i h4; rw [if_neg h4]
  split at he
  · rename_i h5
    rw [if_pos h5]
    simp only [inner, Int.reduceEq, ↓reduceIte] at he ⊢
    have i1 := (need_st s (t := [102, 111, 114]) (by decide)).io hi
    have i2 := (name_st _).io i1
    have i3 := (forIn_st _).io i2
    have i4 := (need_st _ (t := [100, 111]) (by decide)).io i3
    have e4 := listsG_er hL _ _ _ n i4.1 (by decide) he
    have e3 := (need_st _ (t := [100, 111]) (by decide)).erq i3 e4
    have e2 := (forIn_st _).erq i2 e3
    have e1 := (name_st _).erq i1 e2
    have w1 := h.need hi.1 (w := [102, 111, 114]) (by decide) e1
    obtain ⟨w2, w2b⟩ := w1.name hc i1.1 e2
    obtain ⟨w3, w3b⟩ := w2.forIn hc i2.1 e3 (.inr (i3.1.isN (by decide) (need_ok e4).1))
    have w4 := w3.need i3.1 (w := [100, 111]) (by decide) e4
    obtain ⟨q1, q2⟩ := listsG_tw hc hL hT [[100, 111, 110, 101]] [] [] _ _ n i4 (by decide) w4 rfl he
    exact ⟨q1, by rw [q2, w2b, w3b]; rfl⟩
  rename_i h5; rw [if_neg h5]
  split at he
  · rename_i h6
    rw [if_pos h6]
    simp only [inner, Int.reduceEq, ↓reduceIte] at he ⊢
    have i1 := (caseHead_st s).io hi
    have e1 := (caseG_st hL _ _ _ _).erq i1 he
    obtain ⟨w1, w1b⟩ := h.caseHead hc hi.1 e1 (.inr (caseG_end hL i1.1 i1.1.good.ne he))
    obtain ⟨q1, q2, q3⟩ := caseG_tw hc hL hT s.caseHead.2.ts.length [] [] [] s.caseHead.2 t.caseHead.2 t.caseHead.2.ts.length n i1 (Nat.le_refl _) (w1.len i1.1) w1 rfl he
    exact ⟨q1, by rw [q2, q3, w1b]; rfl⟩
  rename_i h6; rw [if_neg h6]
  simp only [inner, Int.reduceEq, ↓reduceIte] at he
  exact (fail_no he).elim
theorem compound_tw (n b : Nat) (s t : S) (hi : InO n o b s) (h : Tw c s t) (he : (compound L s).2.err = 0) : Tw c (compound L s).2 (compound L t).2 ∧ (compound L t).1 = sI c.m (compound L s).1 := by
  unfold compound at *
  dsimp only at he ⊢
  have i1 := (enter_st s n hi.1).1
  have s2 := inner_st hL s.enter
  have i2 := (s2 n i1).1
  have hr : (inner L s.enter (cKind s.enter.hd.text)).2.leave.redirs.2.err = 0 := he
  have i3 := (((enter_st s).trans s2).leave (by decide) n hi.1).1
  have e3 : (inner L s.enter (cKind s.enter.hd.text)).2.leave.err = 0 := (redirs_st _).err i3 hr
  have e2 : (inner L s.enter (cKind s.enter.hd.text)).2.err = 0 := e3
  have e1 := s2.err i1 e2
  obtain ⟨q1, q2⟩ := inner_tw hc hL hT n _ _ (enter_io hi e1) (h.enter e1) e2
  obtain ⟨q3, q4⟩ := q1.leave.redirs hc i3 hr
  exact q3.add (by rw [q2, q4]; rfl)
theorem function_tw (n b : Nat) (s t : S) (hi : InO n o b s) (h : Tw c s t) (he : (function L s).2.err = 0) : Tw c (function L s).2 (function L t).2 ∧ (function L t).1 = sI c.m (function L s).1 := by
  unfold function at *
  dsimp only at he ⊢
  have s2 := name_st s.enter
  have s3 := need_st s.enter.name.2 (t := [40]) (by decide)
  have s4 := need_st (s.enter.name.2.need [40]) (t := [41]) (by decide)
  have s5 := breaks_st ((s.enter.name.2.need [40]).need [41])
  have i1 := (enter_st s n hi.1).1
  have i2 := (s2 n i1).1
  have i3 := (s3 n i2).1
  have i4 := (s4 n i3).1
  have i5 := (s5 n i4).1
  have e6 : (compound L (((s.enter.name.2.need [40]).need [41]).breaks)).2.err = 0 := by rw [add_err, leave_err] at he; exact he
  have e5 := (compound_st hL _).err i5 e6
  have e4 := s5.err i4 e5
  have e3 := s4.err i3 e4
  have e2 := s3.err i2 e3
  have e1 := s2.err i1 e2
  have j1 := enter_io hi e1
  have j5 := s5.io (s4.io (s3.io (s2.io j1)))
  have w1 := h.enter e1
  obtain ⟨w2, w2b⟩ := w1.name hc i1 e2
  have w3 := w2.need i2 (w := [40]) (by decide) e3
  have w4 := w3.need i3 (w := [41]) (by decide) e4
  have w5 := w4.breaks hc i4 (.inr (compound_end hL i5 e6))
  obtain ⟨w6, w6b⟩ := compound_tw hc hL hT n _ _ _ ⟨j5.1, by have := j5.2.1; omega, j5.2.2⟩ w5 e6
  exact w6.leave.add (by rw [w2b, w6b]; rfl)
omit hL hT in
theorem bFun_tw {n : Nat} {s t : S} (hi : Inv n s) (h : Tw c s t) : t.bFun = s.bFun := by
  unfold S.bFun
  have h1 : isNm t.hd.text = isNm s.hd.text := h.view hc hi (fun _ x => isNm x) (by decide)
  have h2 : isRes t.hd.text = isRes s.hd.text := h.view hc hi (fun _ x => isRes x) (by decide)
  rw [h1, h2]
  cases hn : isNm s.hd.text with
  | false => rfl
  | true =>
    have hk := hi.text (isNm_ne hn)
    have ia := (adv_kind hk n hi).1
    have h3 : t.adv.is [40] = s.adv.is [40] := (h.adv hi hk).isEq hc ia (by decide) (by decide)
    have h4 : ((t.ts.tail.headD endT).text == [40]) = ((s.ts.tail.headD endT).text == [40]) := h3
    rw [h4]
theorem command_tw (n b : Nat) (s t : S) (hi : InO n o b s) (h : Tw c s t) (he : (command L s).2.err = 0) : Tw c (command L s).2 (command L t).2 ∧ (command L t).1 = sI c.m (command L s).1 := by
  unfold command at *
  rw [h.cKind hc hi.1, bFun_tw hc hi.1 h]
  split at he
  · rename_i h1
    rw [if_pos h1, if_pos h1]
    split at he
    · rename_i h2
      rw [if_pos h2, if_pos h2]
      exact function_tw hc hL hT n _ s t hi h he
    · rename_i h2
      rw [if_neg h2, if_neg h2]
      exact h.simple hc hi.1 he
  · rename_i h1
    rw [if_neg h1, if_neg h1]
    exact compound_tw hc hL hT n _ s t hi h he
theorem pipeG_tw : ∀ (k : Nat) (l lt : List Int) (s t : S) (k' n b : Nat), InO n o b s → s.ts.length ≤ k → k ≤ k' → Tw c s t → lt = l.map (sI c.m) → 0 < l.length → (pipeG L k l s).2.err = 0 →
    Tw c (pipeG L k l s).2 (pipeG L k' lt t).2 ∧ (pipeG L k' lt t).1 = (pipeG L k l s).1.map (sI c.m) ∧ 0 < (pipeG L k l s).1.length := by
  intro k
  induction k with
  | zero => intro l lt s t k' n b hi hk; have := hi.1.good.ne; omega
  | succ k ih =>
    intro l lt s t k' n b hi hk hk' h hl h0 he
    obtain ⟨k', rfl⟩ : ∃ j, k' = j + 1 := ⟨k' - 1, by omega⟩
    unfold pipeG at he ⊢
    rw [h.isEq hc hi.1 (w := [124]) (by decide) (by decide)]
    split at he
    · rename_i h1
      rw [if_pos h1, if_pos h1]
      have sa := adv_is (by decide) h1
      have ia := sa.io hi
      have ib := (breaks_st _).io ia
      have sc := command_st hL s.adv.breaks
      have ic := sc.io ib
      have ec := (pipeG_st hL k (l ++ [(command L s.adv.breaks).1]) (command L s.adv.breaks).2).erq ic he
      have l1 := sa.lt (by decide) hi.1
      have l2 := (breaks_st _).len ia.1
      have l3 := sc.len ib.1
      have w1 := (h.isT hi.1 (by decide) h1).2.breaks hc ia.1 (.inr (command_end ib.1 ec))
      obtain ⟨w2, w2b⟩ := command_tw hc hL hT n _ _ _ ib w1 ec
      exact ih _ _ _ _ k' n _ ic (by omega) (by omega) w2 (by rw [hl, w2b, List.map_append]; rfl) (by simp) he
    · rename_i h1
      rw [if_neg h1, if_neg h1]
      exact ⟨h, hl, h0⟩
omit hc hL hT in
theorem Tw.whole {s t : S} {l lt : List Int} (h : Tw c s t) (hl : lt = l.map (sI c.m)) (h0 : 0 < l.length) : Tw c (s.whole l).2 (t.whole lt).2 ∧ (t.whole lt).1 = sI c.m (s.whole l).1 := by
  unfold S.whole
  rw [hl, List.length_map]
  split
  · exact h.add (by rw [shN_nd])
  · exact ⟨h, map_head h0⟩
omit hc hL hT in
theorem Tw.notP {s t : S} {b : Bool} {i j : Int} (h : Tw c s t) (hj : j = sI c.m i) : Tw c (s.notP b i).2 (t.notP b j).2 ∧ (t.notP b j).1 = sI c.m (s.notP b i).1 := by
  unfold S.notP
  split
  · exact h.add (by rw [shN_nd, hj]; rfl)
  · exact ⟨h, hj⟩
theorem pipe_tw (n b : Nat) (s t : S) (hi : InO n o b s) (h : Tw c s t) (he : (pipe L s).2.err = 0) : Tw c (pipe L s).2 (pipe L t).2 ∧ (pipe L t).1 = sI c.m (pipe L s).1 := by
  unfold pipe at *
  dsimp only at he ⊢
  have i1 := (may_st s (t := [33]) (by decide)).io hi
  have i2 := (command_st hL (s.may [33])).io i1
  have s3 := pipeG_st hL (command L (s.may [33])).2.ts.length [(command L (s.may [33])).1] (command L (s.may [33])).2
  have i3 := s3.io i2
  have s4 := whole_st (pipeG L (command L (s.may [33])).2.ts.length [(command L (s.may [33])).1] (command L (s.may [33])).2).2 (pipeG L (command L (s.may [33])).2.ts.length [(command L (s.may [33])).1] (command L (s.may [33])).2).1
  have i4 := s4.io i3
  have e4 := (notP_st _ _ _).erq i4 he
  have e3 := s4.erq i3 e4
  have e2 := s3.erq i2 e3
  have w1 := h.may hc hi.1 (w := [33]) (by decide) (by decide)
  obtain ⟨w2, w2b⟩ := command_tw hc hL hT n _ _ _ i1 w1 e2
  obtain ⟨w3, w3b, w3c⟩ := pipeG_tw hc hL hT (command L (s.may [33])).2.ts.length [(command L (s.may [33])).1] [(command L (t.may [33])).1] _ _ (command L (t.may [33])).2.ts.length n _ i2 (Nat.le_refl _) (w2.len i2.1) w2 (by rw [w2b]; rfl) (by simp) e3
  obtain ⟨w4, w4b⟩ := w3.whole w3b w3c
  rw [h.isEq hc hi.1 (w := [33]) (by decide) (by decide)]
  exact w4.notP w4b
theorem andG_tw : ∀ (k : Nat) (i j : Int) (s t : S) (k' n b : Nat), InO n o b s → s.ts.length ≤ k → k ≤ k' → Tw c s t → j = sI c.m i → (andG L k i s).2.err = 0 → Tw c (andG L k i s).2 (andG L k' j t).2 ∧ (andG L k' j t).1 = sI c.m (andG L k i s).1 := by
  intro k
  induction k with
  | zero => intro i j s t k' n b hi hk; have := hi.1.good.ne; omega
  | succ k ih =>
    intro i j s t k' n b hi hk hk' h hj he
    obtain ⟨k', rfl⟩ : ∃ j, k' = j + 1 := ⟨k' - 1, by omega⟩
    unfold andG at he ⊢
    rw [h.isEq hc hi.1 (w := [124, 124]) (by decide) (by decide), h.isEq hc hi.1 (w := [38, 38]) (by decide) (by decide)]
    split at he
    · rename_i h1
      rw [if_pos h1, if_pos h1]
      dsimp only at he ⊢
      have sa := adv_is (by decide) h1
      have ia := sa.io hi
      have ib := (breaks_st _).io ia
      have sp := pipe_st hL s.adv.breaks
      have ip := sp.io ib
      have iq := (add_st _ (nd 5 [i, (pipe L s.adv.breaks).1])).io ip
      have ea := (andG_st hL k _ _).erq iq he
      have ep : (pipe L s.adv.breaks).2.err = 0 := ea
      have l1 := sa.lt (by decide) hi.1
      have l2 := (breaks_st _).len ia.1
      have l3 := sp.len ib.1
      have w1 := (h.isT hi.1 (by decide) h1).2.breaks hc ia.1 (.inr (pipe_end hL ib.1 ep))
      obtain ⟨w2, w2b⟩ := pipe_tw hc hL hT n _ _ _ ib w1 ep
      obtain ⟨w3, w3b⟩ := w2.add (x := nd 5 [i, (pipe L s.adv.breaks).1]) (y := nd 5 [j, (pipe L t.adv.breaks).1]) (by rw [shN_nd, hj, w2b]; rfl)
      exact ih _ _ _ _ k' n _ iq (by show (pipe L s.adv.breaks).2.ts.length ≤ k; omega) (by omega) w3 w3b he
    · rename_i h1
      rw [if_neg h1, if_neg h1]
      split at he
      · rename_i h2
        rw [if_pos h2, if_pos h2]
        dsimp only at he ⊢
        have sa := adv_is (by decide) h2
        have ia := sa.io hi
        have ib := (breaks_st _).io ia
        have sp := pipe_st hL s.adv.breaks
        have ip := sp.io ib
        have iq := (add_st _ (nd 4 [i, (pipe L s.adv.breaks).1])).io ip
        have ea := (andG_st hL k _ _).erq iq he
        have ep : (pipe L s.adv.breaks).2.err = 0 := ea
        have l1 := sa.lt (by decide) hi.1
        have l2 := (breaks_st _).len ia.1
        have l3 := sp.len ib.1
        have w1 := (h.isT hi.1 (by decide) h2).2.breaks hc ia.1 (.inr (pipe_end hL ib.1 ep))
        obtain ⟨w2, w2b⟩ := pipe_tw hc hL hT n _ _ _ ib w1 ep
        obtain ⟨w3, w3b⟩ := w2.add (x := nd 4 [i, (pipe L s.adv.breaks).1]) (y := nd 4 [j, (pipe L t.adv.breaks).1]) (by rw [shN_nd, hj, w2b]; rfl)
        exact ih _ _ _ _ k' n _ iq (by show (pipe L s.adv.breaks).2.ts.length ≤ k; omega) (by omega) w3 w3b he
      · rename_i h2
        rw [if_neg h2, if_neg h2]
        exact ⟨h, hj⟩
theorem item_tw (n b : Nat) (s t : S) (hi : InO n o b s) (h : Tw c s t) (he : (item L s).2.err = 0) : Tw c (item L s).2 (item L t).2 ∧ (item L t).1 = sI c.m (item L s).1 := by
  unfold item at *
  dsimp only at he ⊢
  have ip := (pipe_st hL s).io hi
  have ep := (andG_st hL _ _ _).erq ip he
  obtain ⟨w1, w1b⟩ := pipe_tw hc hL hT n _ _ _ hi h ep
  exact andG_tw hc hL hT _ _ _ _ _ _ n _ ip (Nat.le_refl _) (w1.len ip.1) w1 w1b he
omit hL hT in
theorem backed_tw {n : Nat} {s t : S} {i j : Int} (hi : Inv n s) (h : Tw c s t) (hj : j = sI c.m i) : Tw c (backed s i).2 (backed t j).2 ∧ (backed t j).1 = sI c.m (backed s i).1 := by
  unfold backed
  rw [h.isEq hc hi (w := [38]) (by decide) (by decide)]
  split
  · rename_i h1
    exact (h.isT hi (by decide) h1).2.add (by rw [shN_nd, hj]; rfl)
  · exact ⟨h, hj⟩
omit hL hT in
theorem seps_tw {n : Nat} {s t : S} {b : Bool} (hi : Inv n s) (h : Tw c s t) (hp : c.q = true ∨ ¬ s.hd.kind = 4) : Tw c (s.seps b).2 (t.seps b).2 ∧ (t.seps b).1 = (s.seps b).1 := by
  unfold S.seps
  split
  · exact ⟨h, rfl⟩
  · rw [h.isEq hc hi (w := [59]) (by decide) (by decide)]
    split
    · rename_i h1
      exact ⟨(h.isT hi (by decide) h1).2, rfl⟩
    · cases h1 : s.is [10] with
      | true =>
        obtain ⟨h2, h3⟩ := h.isT hi (by decide) h1
        rw [h2]
        exact ⟨h3, rfl⟩
      | false =>
        have h2 : t.is [10] = false := by
          rcases h.hd hi with ⟨h4, _, _, h5⟩ | ⟨_, h5, _⟩
          · rcases hp with hq | hp
            · rcases hc with ⟨_, _, b⟩ | ⟨a, _⟩
              · unfold S.is; rw [h5, b]; decide
              · rw [a] at hq; cases hq
            · exact absurd h4 hp
          · unfold S.is at h1 ⊢
            rw [h5]; exact h1
        rw [h2]
        exact ⟨h, rfl⟩
theorem itemsG_tw (l0 : List Int) : ∀ (k : Nat) (l : List Int) (b b' : Bool) (s t : S) (k' n d : Nat), InO n o d s → s.ts.length ≤ k → k ≤ k' → Tw c s t → (itemsG L k l b s).2.err = 0 → (c.q = true ∨ ¬ (itemsG L k l b s).2.hd.kind = 4) →
    Tw c (itemsG L k l b s).2 (itemsG L k' (l0 ++ l.map (sI c.m)) b' t).2 ∧ (itemsG L k' (l0 ++ l.map (sI c.m)) b' t).1.1 = l0 ++ (itemsG L k l b s).1.1.map (sI c.m) ∧ (itemsG L k' (l0 ++ l.map (sI c.m)) b' t).1.2 = (itemsG L k l b s).1.2 := by
  intro k
  induction k with
  | zero => intro l b b' s t k' n d hi hk; have := hi.1.good.ne; omega
  | succ k ih =>
    intro l b b' s t k' n d hi hk hk' h he hp
    obtain ⟨k', rfl⟩ : ∃ j, k' = j + 1 := ⟨k' - 1, by omega⟩
    unfold itemsG at he hp ⊢
    dsimp only at he hp ⊢
    have i1 := (item_st hL s).io hi
    have i2 := (backed_st (item L s).2 (item L s).1).io i1
    have s3 := seps_st (backed (item L s).2 (item L s).1).2 ((item L s).2.is [38])
    have i3 := s3.io i2
    have i4 := (breaks_st _).io i3
    have herr : ((backed (item L s).2 (item L s).1).2.seps ((item L s).2.is [38])).2.breaks.err = 0 → (item L s).2.err = 0 := fun e =>
      (backed_st _ _).erq i1 (s3.erq i2 ((breaks_st _).erq i3 e))
    have key : ((backed (item L s).2 (item L s).1).2.seps ((item L s).2.is [38])).2.breaks.err = 0 → (c.q = true ∨ ¬ ((backed (item L s).2 (item L s).1).2.seps ((item L s).2.is [38])).2.breaks.hd.kind = 4) →
        (item L t).2.is [38] = (item L s).2.is [38] ∧ (backed (item L t).2 (item L t).1).1 = sI c.m (backed (item L s).2 (item L s).1).1 ∧
        ((backed (item L t).2 (item L t).1).2.seps ((item L s).2.is [38])).1 = ((backed (item L s).2 (item L s).1).2.seps ((item L s).2.is [38])).1 ∧
        Tw c ((backed (item L s).2 (item L s).1).2.seps ((item L s).2.is [38])).2.breaks ((backed (item L t).2 (item L t).1).2.seps ((item L s).2.is [38])).2.breaks := by
      intro e hq
      obtain ⟨w1, w1b⟩ := item_tw hc hL hT n _ _ _ hi h (herr e)
      obtain ⟨w2, w2b⟩ := backed_tw hc i1.1 w1 w1b
      obtain ⟨w3, w3b⟩ := seps_tw hc (b := (item L s).2.is [38]) i2.1 w2 (hq.imp_right fun hx h4 => hx ((breaks_st _).fin i3.1 (s3.fin i2.1 h4)))
      exact ⟨w1.isEq hc i1.1 (by decide) (by decide), w2b, w3b, w3.breaks hc i3.1 hq⟩
    split at he
    · rename_i h1
      rw [if_pos h1] at hp ⊢
      have h1' := h1
      rw [Bool.and_eq_true] at h1
      have e4 := (itemsG_st hL k _ _ _).erq i4 he
      obtain ⟨r1, r2, r3, r4⟩ := key e4 (.inr (bItem_end i4.1 h1.2))
      rw [r1]
      have hcond : (((backed (item L t).2 (item L t).1).2.seps ((item L s).2.is [38])).1 && bItem ((backed (item L t).2 (item L t).1).2.seps ((item L s).2.is [38])).2.breaks.hd) = true := by
        rw [r3, r4.bItem hc i4.1]; exact h1'
      rw [if_pos hcond]
      have l1 := (item_st hL s).len hi.1
      have l2 := (seps_more (item L s).2 (item L s).1 h1.1).lt (by decide) i1.1
      have l3 := (breaks_st ((backed (item L s).2 (item L s).1).2.seps ((item L s).2.is [38])).2).len i3.1
      have := ih (l ++ [(backed (item L s).2 (item L s).1).1]) ((item L s).2.is [38]) ((item L s).2.is [38]) _ _ k' n _ i4 (by omega) (by omega) r4 he hp
      rw [r2]
      rw [List.map_append, ← List.append_assoc] at this
      exact this
    · rename_i h1
      rw [if_neg h1] at hp ⊢
      obtain ⟨r1, r2, r3, r4⟩ := key he hp
      rw [r1]
      have hcond : ¬ (((backed (item L t).2 (item L t).1).2.seps ((item L s).2.is [38])).1 && bItem ((backed (item L t).2 (item L t).1).2.seps ((item L s).2.is [38])).2.breaks.hd) = true := by
        rw [r3, r4.bItem hc i4.1]; exact h1
      rw [if_neg hcond]
      exact ⟨r4, by rw [r2, List.map_append, List.append_assoc]; rfl, rfl⟩
omit hT in
theorem itemsG_end {n k : Nat} {l : List Int} {b : Bool} {s : S} (hi : Inv n s) (hk : 0 < k) (he : (itemsG L k l b s).2.err = 0) : ¬ s.hd.kind = 4 := by
  obtain ⟨k, rfl⟩ : ∃ j, k = j + 1 := ⟨k - 1, by omega⟩
  have i1 := (item_st hL s n hi).1
  have i2 := (backed_st (item L s).2 (item L s).1 n i1).1
  have s3 := seps_st (backed (item L s).2 (item L s).1).2 ((item L s).2.is [38])
  have i3 := (s3 n i2).1
  have i4 := (breaks_st _ n i3).1
  have e : ((backed (item L s).2 (item L s).1).2.seps ((item L s).2.is [38])).2.breaks.err = 0 := by
    unfold itemsG at he
    dsimp only at he
    split at he
    · exact (itemsG_st hL k _ _ _).err i4 he
    · exact he
  exact item_end hL hi ((backed_st _ _).err i1 (s3.err i2 ((breaks_st _).err i3 e)))
omit hc hL hT in
theorem Tw.seqs {s t : S} {l lt : List Int} {b : Bool} (h : Tw c s t) (hl : lt = l.map (sI c.m)) : Tw c (s.seqs l b).2 (t.seqs lt b).2 ∧ (t.seqs lt b).1 = sI c.m (s.seqs l b).1 := by
  unfold S.seqs
  rw [hl, List.length_map]
  split
  · rename_i h1
    rw [Bool.and_eq_true, beq_iff_eq] at h1
    exact ⟨h, map_head (by omega)⟩
  · exact h.add (by rw [shN_nd])
omit hc hL hT in
theorem seqs_ts (s : S) (l : List Int) (b : Bool) : (s.seqs l b).2.hd = s.hd := by
  unfold S.seqs; split <;> rfl
theorem list1_tw : LTw c o (list1 L) := by
  intro n s t hi h he hp
  unfold list1 at *
  dsimp only at he hp ⊢
  have i1 := (breaks_st s).io hi
  have s2 := itemsG_st hL s.breaks.ts.length [] false s.breaks
  have e2 := (seqs_st _ _ _).err (s2 n i1.1).1 he
  rw [seqs_ts] at hp
  have w1 := h.breaks hc hi.1 (.inr (itemsG_end hc hL i1.1 i1.1.good.ne e2))
  obtain ⟨w2, w2b, w2c⟩ := itemsG_tw hc hL hT [] s.breaks.ts.length [] false false _ _ t.breaks.ts.length n _ i1 (Nat.le_refl _) (w1.len i1.1) w1 e2 hp
  have ee : ([] : List Int) ++ ([] : List Int).map (sI c.m) = [] := rfl
  rw [ee] at w2 w2b w2c
  rw [w2c]
  exact w2.seqs (by rw [w2b]; rfl)
end
theorem listD_tw {c : Ctx} (hc : c.ok) : ∀ d, LTw c (25 - d) (listD d) := by
  intro d
  induction d with
  | zero =>
    intro n s t hi
    unfold listD
    exact list1_tw hc (L := fun s => (0, s)) (o := 25) (fun s => (St.refl s).le (by decide)) (fun n s t hi => by have := hi.2; omega) n s t hi
  | succ d ih =>
    intro n s t hi
    unfold listD
    by_cases hd : d < 25
    · exact list1_tw hc (o := 25 - (d + 1)) (listD_st d) (by rw [show 25 - (d + 1) + 1 = 25 - d by omega]; exact ih) n s t hi
    · exact list1_tw hc (o := 25 - (d + 1)) (listD_st d) (fun n s t hi => ih n s t ⟨hi.1, by omega, hi.2.2⟩) n s t hi
end Go.Proofs.Ytoahgblgchmclaa
