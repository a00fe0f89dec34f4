/- The nodes stand in order: each kid's nodes right ahead of the next one's, the last one's right ahead of the node. -/
import Derived.Test.YtoahgblgchmclaaPB
namespace Go.Proofs.Ytoahgblgchmclaa
set_option linter.unusedVariables false
set_option linter.unusedSimpArgs false
/-- where the kids begin, from the last one back. -/
def fromK (bs : List Nat) (k : Int) : List Int → Nat → Option Nat
  | [], f => some f
  | x :: r, f => if x = -1 ∧ k = 14 then fromK bs k r f else if f = 0 ∨ ¬ x = (f : Int) - 1 then none else fromK bs k r (bs.getD (f - 1) 0)
def kidN (n : Nd) : Nat × Nat :=
  if n.kind = 1 then (0, 0) else if n.kind = 2 ∨ n.kind = 7 ∨ n.kind = 8 ∨ n.kind = 9 ∨ n.kind = 13 ∨ n.kind = 15 then (1, 1)
  else if n.kind = 4 ∨ n.kind = 5 ∨ n.kind = 11 ∨ n.kind = 12 then (2, 2) else if n.kind = 3 then (2, 400) else if n.kind = 6 then (1, 400)
  else if n.kind = 10 then (2, 3) else if n.kind = 14 then (n.pats.length, n.pats.length) else (1, 0)
structure OkN (n : Nd) : Prop where
  lo : (kidN n).1 ≤ n.kids.length
  hi : n.kids.length ≤ (kidN n).2 ∨ n.kind = 3 ∨ n.kind = 6
  cmd : n.kind = 1 → ¬ n.sets.length + n.words.length + n.redirs.length = 0
  nam : (!(n.name == [])) = (n.kind == 13 || n.kind == 15)
structure Snd (ns : List Nd) (bs : List Nat) : Prop where
  len : bs.length = ns.length
  le : ∀ j, bs.getD j 0 ≤ j
  ok : ∀ i n, ns[i]? = some n → OkN n ∧ fromK bs n.kind n.kids.reverse i = some (bs.getD i 0)
theorem getD_app (bs cs : List Nat) (j : Nat) (h : j < bs.length) : (bs ++ cs).getD j 0 = bs.getD j 0 := by
  rw [List.getD_eq_getElem?_getD, List.getD_eq_getElem?_getD, List.getElem?_append_left h]
theorem fromK_app (bs cs : List Nat) (k : Int) (hle : ∀ j, bs.getD j 0 ≤ j) : ∀ (l : List Int) (f : Nat), f ≤ bs.length → fromK (bs ++ cs) k l f = fromK bs k l f := by
  intro l
  induction l with
  | nil => intro f _; rfl
  | cons x r ih =>
    intro f hf
    unfold fromK
    split
    · exact ih f hf
    · split
      · rfl
      · rename_i h1 h2
        rw [getD_app _ _ _ (by omega)]
        exact ih _ (Nat.le_trans (hle _) (by omega))
theorem fromK_le (bs : List Nat) (k : Int) (hle : ∀ j, bs.getD j 0 ≤ j) : ∀ (l : List Int) (f b : Nat), fromK bs k l f = some b → b ≤ f ∧ (¬ k = 14 → l.length + b ≤ f) := by
  intro l
  induction l with
  | nil => intro f b h; cases h; exact ⟨Nat.le_refl _, fun _ => by simp⟩
  | cons x r ih =>
    intro f b h
    unfold fromK at h
    split at h
    · rename_i hx
      exact ⟨(ih f b h).1, fun hk => absurd hx.2 hk⟩
    · split at h
      · cases h
      · rename_i h1 h2
        have := ih _ _ h
        have h3 := hle (f - 1)
        exact ⟨by omega, fun hk => by have := this.2 hk; simp only [List.length_cons]; omega⟩
/-- a node more. -/
theorem Snd.add {ns : List Nd} {bs : List Nat} {n : Nd} {b : Nat} (h : Snd ns bs) (hn : OkN n) (hb : fromK bs n.kind n.kids.reverse ns.length = some b) : Snd (ns ++ [n]) (bs ++ [b]) := by
  have hbl := (fromK_le bs _ h.le _ _ _ hb).1
  have hle : ∀ j, (bs ++ [b]).getD j 0 ≤ j := by
    intro j
    by_cases hj : j < bs.length
    · rw [getD_app _ _ _ hj]; exact h.le j
    · rw [List.getD_eq_getElem?_getD, List.getElem?_append_right (by omega)]
      cases hk : j - bs.length with
      | zero => have := h.len; simp; omega
      | succ k => simp
  refine ⟨by rw [List.length_append, List.length_append, h.len]; rfl, hle, fun i m hm => ?_⟩
  by_cases hi : i < ns.length
  · rw [List.getElem?_append_left hi] at hm
    obtain ⟨h1, h2⟩ := h.ok i m hm
    refine ⟨h1, ?_⟩
    rw [fromK_app _ _ _ h.le _ _ (by rw [h.len]; omega), getD_app _ _ _ (by rw [h.len]; omega)]
    exact h2
  · rw [List.getElem?_append_right (by omega)] at hm
    cases hk : i - ns.length with
    | zero =>
      rw [hk] at hm
      simp at hm
      subst hm
      obtain rfl : i = ns.length := by omega
      refine ⟨hn, ?_⟩
      rw [fromK_app _ _ _ h.le _ _ (by rw [h.len]; omega), hb]
      congr 1
      rw [List.getD_eq_getElem?_getD, List.getElem?_append_right (by rw [h.len]; omega), h.len, Nat.sub_self]
      rfl
    | succ k => rw [hk] at hm; simp at hm
/-- kids of a kind k, laid behind the nodes ns up to ms. -/
def RK (k : Int) (ns ms : List Nd) (ks : List Int) : Prop := ∀ bs, Snd ns bs → ∃ cs, Snd ms (bs ++ cs) ∧ fromK (bs ++ cs) k ks.reverse ms.length = some ns.length
/-- one node with its kids, behind the nodes ns. -/
def RI (ns ms : List Nd) (i : Int) : Prop := ∀ bs, Snd ns bs → ∃ cs, Snd ms (bs ++ cs) ∧ 0 < ms.length ∧ i = (ms.length : Int) - 1 ∧ (bs ++ cs).getD (ms.length - 1) 0 = ns.length
theorem RK.nil (k : Int) (ns : List Nd) : RK k ns ns [] := fun bs h => ⟨[], by rw [List.append_nil]; exact h, rfl⟩
theorem RK.snoc {k : Int} {ns ms ls : List Nd} {ks : List Int} {i : Int} (h : RK k ns ms ks) (hi : RI ms ls i) : RK k ns ls (ks ++ [i]) := fun bs hb => by
  obtain ⟨cs, h1, h2⟩ := h bs hb
  obtain ⟨ds, k1, k2, k3, k4⟩ := hi _ h1
  refine ⟨cs ++ ds, by rw [← List.append_assoc]; exact k1, ?_⟩
  rw [← List.append_assoc, List.reverse_append, List.reverse_cons, List.reverse_nil, List.nil_append, List.singleton_append, fromK, if_neg (by omega), if_neg (by omega), k4]
  rw [fromK_app _ _ _ h1.le _ _ (by rw [h1.len]; omega)]
  exact h2
theorem RK.skip {ns ms : List Nd} {ks : List Int} (h : RK 14 ns ms ks) : RK 14 ns ms (ks ++ [-1]) := fun bs hb => by
  obtain ⟨cs, h1, h2⟩ := h bs hb
  refine ⟨cs, h1, ?_⟩
  rw [List.reverse_append, List.reverse_cons, List.reverse_nil, List.nil_append, List.singleton_append, fromK, if_pos ⟨rfl, rfl⟩]
  exact h2
theorem RK.one {k : Int} {ns ms : List Nd} {i : Int} (hi : RI ns ms i) : RK k ns ms [i] := (RK.nil k ns).snoc hi
theorem RK.add {ns ms : List Nd} {n : Nd} (h : RK n.kind ns ms n.kids) (hn : OkN n) : RI ns (ms ++ [n]) ms.length := fun bs hb => by
  obtain ⟨cs, h1, h2⟩ := h bs hb
  refine ⟨cs ++ [ns.length], by rw [← List.append_assoc]; exact h1.add hn h2, by simp, by simp, ?_⟩
  rw [← List.append_assoc, List.length_append, List.getD_eq_getElem?_getD, List.getElem?_append_right (by rw [h1.len]; simp), h1.len]
  simp
theorem RK.add' {s : S} {ns : List Nd} {n : Nd} (h : RK n.kind ns s.ns n.kids) (hn : OkN n) : RI ns (s.add n).2.ns (s.add n).1 := h.add hn
-- what is right where there is no error
theorem fail_no {s : S} (h : s.fail.err = 0) : False := fail_err s h
theorem need_ok {s : S} {t : Bs} (h : (s.need t).err = 0) : s.is t = true ∧ (s.need t) = s.adv := by
  unfold S.need at *
  split at h
  · rename_i h1; exact ⟨h1, by rw [if_pos h1]⟩
  · exact (fail_no h).elim
theorem need_ns (s : S) (t : Bs) : (s.need t).ns = s.ns := by
  unfold S.need S.fail S.adv
  split
  · rfl
  · split <;> rfl
theorem may_ns (s : S) (t : Bs) : (s.may t).ns = s.ns := by
  unfold S.may S.adv
  split <;> rfl
theorem fail_ns (s : S) : s.fail.ns = s.ns := by
  unfold S.fail
  split <;> rfl
theorem word_ns (s : S) : s.word.2.ns = s.ns := by
  unfold S.word
  split
  · rfl
  · exact fail_ns s
theorem name_ns (s : S) : s.name.2.ns = s.ns := by
  unfold S.name
  split
  · rfl
  · exact fail_ns s
theorem name_ok {s : S} (h : s.name.2.err = 0) : (!(s.name.1 == [])) = true := by
  unfold S.name at *
  split at h
  · rename_i h1
    rw [if_pos h1]
    have := isNm_ne h1
    cases hb : (s.hd.text == []) with
    | true => rw [beq_iff_eq] at hb; exact absurd hb this
    | false => rfl
  · exact (fail_no h).elim
theorem enter_ns (s : S) : s.enter.ns = s.ns := by
  unfold S.enter
  split
  · exact fail_ns s
  · rfl
theorem redir_ns (s : S) : s.redir.2.ns = s.ns := by
  have h1 : s.fdOf.2.ns = s.ns := by unfold S.fdOf; split <;> rfl
  have h2 : s.fdOf.2.adv.rword.2.ns = s.fdOf.2.adv.ns := by
    unfold S.rword
    split
    · rfl
    · exact word_ns _
  exact h2.trans h1
theorem redirsG_ns : ∀ (k : Nat) (l : List Rd) (s : S), (redirsG k l s).2.ns = s.ns := by
  intro k
  induction k with
  | zero => intro l s; rfl
  | succ k ih =>
    intro l s
    unfold redirsG
    split
    · rw [ih]; exact redir_ns s
    · rfl
theorem simpG_ns : ∀ (k : Nat) (n : Nd) (s : S), (simpG k n s).2.ns = s.ns ∧ (simpG k n s).1.kind = n.kind ∧ (simpG k n s).1.name = n.name ∧ (simpG k n s).1.kids = n.kids := by
  intro k
  induction k with
  | zero => intro l s; exact ⟨rfl, rfl, rfl, rfl⟩
  | succ k ih =>
    intro l s
    unfold simpG
    split
    · obtain ⟨h1, h2⟩ := ih { l with redirs := l.redirs ++ [s.redir.1] } s.redir.2
      exact ⟨h1.trans (redir_ns s), h2⟩
    · split
      · obtain ⟨h1, h2⟩ := ih { l with sets := l.sets ++ [s.word.1] } s.word.2
        exact ⟨h1.trans (word_ns s), h2⟩
      · split
        · obtain ⟨h1, h2⟩ := ih { l with words := l.words ++ [s.word.1] } s.word.2
          exact ⟨h1.trans (word_ns s), h2⟩
        · exact ⟨rfl, rfl, rfl, rfl⟩
theorem wordsG_ns : ∀ (k : Nat) (l : List Bs) (s : S), (wordsG k l s).2.ns = s.ns := by
  intro k
  induction k with
  | zero => intro l s; rfl
  | succ k ih =>
    intro l s
    unfold wordsG
    split
    · rw [ih]; exact word_ns s
    · rfl
theorem patG_ns : ∀ (k : Nat) (l : List Bs) (s : S), (patG k l s).2.ns = s.ns := by
  intro k
  induction k with
  | zero => intro l s; rfl
  | succ k ih =>
    intro l s
    unfold patG
    split
    · rw [ih]; exact word_ns s.adv
    · rfl
theorem breaks_ns (s : S) : s.breaks.ns = s.ns := rfl
theorem forIn_ns (s : S) : s.forIn.2.ns = s.ns := by
  unfold S.forIn
  dsimp only
  rw [breaks_ns, may_ns]
  split
  · rw [wordsG_ns]; rfl
  · rfl
theorem patterns_ns (s : S) : s.patterns.2.ns = s.ns := by
  unfold S.patterns
  dsimp only
  rw [need_ns, patG_ns, word_ns, may_ns]
theorem caseHead_ns (s : S) : s.caseHead.2.ns = s.ns := by
  unfold S.caseHead
  dsimp only
  rw [breaks_ns, need_ns, breaks_ns, word_ns, need_ns]
/-- an error stays. -/
theorem St.err {c o : Int} {s t : S} {n : Nat} (h : St c o s t) (hi : Inv n s) (he : t.err = 0) : s.err = 0 := by
  by_cases h0 : s.err = 0
  · exact h0
  · have := ((h n hi).2.1.err h0).1
    rw [he] at this
    exact this.symm
theorem add_err (s : S) (n : Nd) : (s.add n).2.err = s.err := rfl
theorem leave_err (s : S) : s.leave.err = s.err := rfl
theorem leave_ns (s : S) : s.leave.ns = s.ns := rfl
theorem simple_snd (s : S) (h : s.simple.2.err = 0) : RI s.ns s.simple.2.ns s.simple.1 := by
  unfold S.simple at *
  obtain ⟨h1, h2, h3, h4⟩ := simpG_ns s.ts.length (nd 1 []) s
  generalize simpG s.ts.length (nd 1 []) s = r at *
  obtain ⟨n, t⟩ := r
  dsimp only at h h1 h2 h3 h4 ⊢
  unfold S.orFail at *
  split at h
  · exact (fail_no h).elim
  · rename_i h0
    rw [if_neg h0]
    have e : t.ns = s.ns := h1
    refine RK.add' ?_ ?_
    · rw [h4, e]; exact RK.nil _ _
    · refine ⟨?_, ?_, fun _ => h0, by rw [h2, h3]; rfl⟩ <;> unfold kidN <;> rw [h2, h4] <;> simp [nd]
/-- what is open lies between these. -/
def InO (n a b : Nat) (s : S) : Prop := Inv n s ∧ a ≤ s.opn ∧ s.opn ≤ b
theorem St.io {c : Int} {s t : S} {n a b : Nat} (h : St c 0 s t) (hi : InO n a b s) : InO n a b t := by
  obtain ⟨h1, h2, h3, h4⟩ := h n hi.1
  exact ⟨h1, by have := hi.2.1; omega, by have := hi.2.2; omega⟩
theorem St.erq {c o : Int} {s t : S} {n a b : Nat} (h : St c o s t) (hi : InO n a b s) (he : t.err = 0) : s.err = 0 := h.err hi.1 he
/-- a list that stands in order, where so much is open. -/
def Lss (o : Nat) (L : S → Int × S) : Prop := ∀ n s, InO n o 25 s → (L s).2.err = 0 → RI s.ns (L s).2.ns (L s).1
theorem enter_io {n o b : Nat} {s : S} (hi : InO n o b s) (he : s.enter.err = 0) : InO n (o + 1) 25 s.enter := by
  refine ⟨(enter_st s n hi.1).1, ?_, ?_⟩
  · have := hi.2.1
    show o + 1 ≤ s.opn + 1
    omega
  · show s.opn + 1 ≤ 25
    unfold S.enter at he
    split at he
    · exact (fail_no he).elim
    · omega
section
variable {L : S → Int × S} {o : Nat} (hL : Lst L) (hS : Lss (o + 1) L)
include hL hS
theorem listsG_snd (k : Int) (ns : List Nd) : ∀ (ws : List Bs) (ks : List Int) (s : S) (n : Nat), InO n (o + 1) 25 s → (∀ w ∈ ws, ¬ w = []) → RK k ns s.ns ks → (listsG L ws ks s).2.err = 0 →
    RK k ns (listsG L ws ks s).2.ns (listsG L ws ks s).1 ∧ (listsG L ws ks s).1.length = ks.length + ws.length := by
  intro ws
  induction ws with
  | nil => intro ks s n hi _ h he; exact ⟨h, by simp [listsG]⟩
  | cons w r ih =>
    intro ks s n hi hw h he
    unfold listsG at he ⊢
    have hwn := hw w (by simp)
    have hi1 := ((hL s).io hi)
    have hi2 := ((need_st (L s).2 hwn).io hi1)
    have hst : St 0 0 (L s).2 ((L s).2.need w) := need_st _ hwn
    have hrs : ∀ (ws : List Bs) (ks : List Int) (t : S), (∀ w ∈ ws, ¬ w = []) → InO n (o + 1) 25 t → (listsG L ws ks t).2.err = 0 → t.err = 0 := by
      intro ws
      induction ws with
      | nil => intro ks t _ _ h; exact h
      | cons x y ihh =>
        intro ks t hw ht h
        unfold listsG at h
        have hx := hw x (by simp)
        have h1 := ihh _ _ (fun w hw' => hw w (by simp [hw'])) (((need_st (L t).2 hx).io ((hL t).io ht))) h
        have h2 := (need_st (L t).2 hx).erq ((hL t).io ht) h1
        exact (hL t).erq ht h2
    have he1 := hrs r _ _ (fun x hx => hw x (by simp [hx])) hi2 he
    have he2 := hst.erq hi1 he1
    have hr := hS n s hi he2
    obtain ⟨q1, q2⟩ := ih (ks ++ [(L s).1]) ((L s).2.need w) n hi2 (fun x hx => hw x (by simp [hx])) (by rw [need_ns]; exact h.snoc hr) he
    exact ⟨q1, by rw [q2]; simp; omega⟩
theorem branG_snd : ∀ (k : Nat) (w : Bs) (s : S) (n : Nat), InO n (o + 1) 25 s → ¬ w = [] → s.is w = true → s.ts.length ≤ k → (branG L k w s).2.err = 0 →
    RK 10 s.ns (branG L k w s).2.ns (branG L k w s).1 ∧ 2 ≤ (branG L k w s).1.length ∧ (branG L k w s).1.length ≤ 3 := by
  intro k
  induction k with
  | zero => intro w s n hi _ _ hk; have := hi.1.good.ne; omega
  | succ k ih =>
    intro w s n hi hw his hk he
    unfold branG at he ⊢
    dsimp only at he ⊢
    have s1 := need_is hw his
    have i1 := ((s1).io hi)
    have i2 := ((hL _).io i1)
    have s3 : St 0 0 (L (s.need w)).2 ((L (s.need w)).2.need [116, 104, 101, 110]) := need_st _ (by decide)
    have i3 := ((s3).io i2)
    have i4 := ((hL _).io i3)
    have e3 : s.need w = s.adv := by unfold S.need; rw [if_pos his]
    have hlen : (L ((L (s.need w)).2.need [116, 104, 101, 110])).2.ts.length ≤ k := by
      have h1 := (s1 n hi.1).2.1.suf.length_le
      have h2 := (hL _ n i1.1).2.1.suf.length_le
      have h3 := (s3 n i2.1).2.1.suf.length_le
      have h4 := (hL _ n i3.1).2.1.suf.length_le
      rw [e3] at h2 h3 h4 ⊢
      have h5 : s.adv.ts.length = s.ts.length - 1 := List.length_tail
      have := hi.1.good.ne
      omega
    generalize hq : (L ((L (s.need w)).2.need [116, 104, 101, 110])) = q at *
    have key : q.2.err = 0 → RK 10 s.ns q.2.ns [(L (s.need w)).1, q.1] := by
      intro he0
      rw [← hq] at he0
      have he3 := (hL _).erq i3 he0
      have he2 := s3.erq i2 he3
      have he1 := (hL _).erq i1 he2
      have r1 := hS n _ i1 he2
      have r2 := hS n _ i3 he0
      rw [need_ns] at r1 r2
      rw [← hq]
      exact ((RK.nil 10 s.ns).snoc r1).snoc r2
    split at he
    · rename_i h
      rw [if_pos h]
      have hb := branG_st hL k _ _ (by decide) h
      have ib := ((hb).io i4)
      have heb : (branG L k [101, 108, 105, 102] q.2).2.err = 0 := he
      obtain ⟨b1, b2, b3⟩ := ih _ _ n i4 (by decide) h hlen heb
      refine ⟨(key (hb.erq i4 heb)).snoc (RK.add' (n := nd 10 _) b1 ⟨?_, ?_, ?_, rfl⟩), by simp, by simp⟩
      · show 2 ≤ _; exact b2
      · left; show _ ≤ 3; exact b3
      · intro h; cases h
    · rename_i h
      rw [if_neg h]
      split at he
      · rename_i h'
        rw [if_pos h']
        have ha := adv_is (by decide) h'
        have ia := ((ha).io i4)
        have hea := (hL _).erq ia he
        exact ⟨(key (ha.erq i4 hea)).snoc (hS n _ ia he), by simp, by simp⟩
      · rename_i h'
        rw [if_neg h']
        exact ⟨key he, by simp, by simp⟩
theorem caseG_snd (ns : List Nd) : ∀ (k : Nat) (ps : List (List Bs)) (ks : List Int) (s : S) (n : Nat), InO n (o + 1) 25 s → s.ts.length ≤ k → ps.length = ks.length → RK 14 ns s.ns ks → (caseG L k ps ks s).2.err = 0 →
    RK 14 ns (caseG L k ps ks s).2.ns (caseG L k ps ks s).1.2 ∧ (caseG L k ps ks s).1.1.length = (caseG L k ps ks s).1.2.length := by
  intro k
  induction k with
  | zero => intro ps ks s n hi hk; have := hi.1.good.ne; omega
  | succ k ih =>
    intro ps ks s n hi hk hl hr he
    unfold caseG at he ⊢
    split at he
    · rename_i h
      rw [if_pos h]
      exact ⟨hr, hl⟩
    · rename_i h
      rw [if_neg h]
      dsimp only at he ⊢
      have ip := ((patterns_st s).io hi)
      have sc := caseList_st hL s.patterns.2
      have ic := ((sc).io ip)
      have key : (caseList L s.patterns.2).2.err = 0 → RK 14 ns (caseList L s.patterns.2).2.ns (ks ++ [(caseList L s.patterns.2).1]) := by
        intro he0
        have hp : s.patterns.2.ns = s.ns := patterns_ns s
        unfold caseList at he0 ⊢
        split at he0
        · rename_i hb
          rw [if_pos hb]
          have r := hS n _ ((breaks_st s.patterns.2).io ip) he0
          rw [breaks_ns, hp] at r
          exact hr.snoc r
        · rename_i hb
          rw [if_neg hb]
          show RK 14 ns s.patterns.2.breaks.ns (ks ++ [-1])
          rw [breaks_ns, hp]
          exact hr.skip
      split at he
      · rename_i h2
        rw [if_pos h2]
        have sa := adv_is (by decide) h2
        have ia := ((sa).io ic)
        have ib := ((breaks_st _).io ia)
        have l1 := (patterns_st s n hi.1).2.1.suf.length_le
        have l2 := (sc n ip.1).2.1.suf.length_le
        have l3 : (caseList L s.patterns.2).2.adv.ts.length = (caseList L s.patterns.2).2.ts.length - 1 := List.length_tail
        have l4 := (breaks_st _ n ia.1).2.1.suf.length_le
        have l5 := ic.1.good.ne
        have heb := (caseG_st hL _ _ _ _).erq ib he
        have hec := sa.erq ic ((breaks_st _).erq ia heb)
        exact ih _ _ _ n ib (by omega) (by simp [hl]) (key hec) he
      · rename_i h2
        rw [if_neg h2]
        obtain ⟨h3, h4⟩ := need_ok he
        have hec : (caseList L s.patterns.2).2.err = 0 := (need_st _ (t := [101, 115, 97, 99]) (by decide)).erq ic he
        exact ⟨by rw [need_ns]; exact key hec, by simp [hl]⟩
theorem inner_snd (n : Nat) (s : S) (hi : InO n (o + 1) 25 s) (he : (inner L s (cKind s.hd.text)).2.err = 0) :
    RK (inner L s (cKind s.hd.text)).1.kind s.ns (inner L s (cKind s.hd.text)).2.ns (inner L s (cKind s.hd.text)).1.kids ∧ ∀ rs, OkN { (inner L s (cKind s.hd.text)).1 with redirs := rs } := by
  have hiss : ∀ t : Bs, s.hd.text = t → s.is t = true := fun t h => by unfold S.is; rw [h]; exact beq_self_eq_true t
  unfold cKind at *
  split at he
  · rename_i h
    rw [if_pos h]
    simp only [inner, Int.reduceEq, ↓reduceIte] at he ⊢
    have i1 := ((need_st s (t := [123]) (by decide)).io hi)
    obtain ⟨q1, q2⟩ := listsG_snd hL hS 8 s.ns [[125]] [] _ n i1 (by decide) (by rw [need_ns]; exact RK.nil _ _) he
    exact ⟨q1, fun rs => ⟨by show 1 ≤ _; rw [nd, q2]; simp, .inl (by show _ ≤ 1; rw [nd, q2]; simp), (fun h => by cases h), rfl⟩⟩
  rename_i h0; rw [if_neg h0]
  split at he
  · rename_i h
    rw [if_pos h]
    simp only [inner, Int.reduceEq, ↓reduceIte] at he ⊢
    have i1 := ((need_st s (t := [40]) (by decide)).io hi)
    obtain ⟨q1, q2⟩ := listsG_snd hL hS 9 s.ns [[41]] [] _ n i1 (by decide) (by rw [need_ns]; exact RK.nil _ _) he
    exact ⟨q1, fun rs => ⟨by show 1 ≤ _; rw [nd, q2]; simp, .inl (by show _ ≤ 1; rw [nd, q2]; simp), (fun h => by cases h), rfl⟩⟩
  rename_i h1; rw [if_neg h1]
  split at he
  · rename_i h
    rw [if_pos h]
    simp only [inner, Int.reduceEq, ↓reduceIte] at he ⊢
    have sb := branG_st hL s.ts.length [105, 102] s (by decide) (hiss _ h)
    have heb := (need_st _ (t := [102, 105]) (by decide)).erq ((sb).io hi) he
    obtain ⟨b1, b2, b3⟩ := branG_snd hL hS _ [105, 102] s n hi (by decide) (hiss _ h) (Nat.le_refl _) heb
    exact ⟨by rw [need_ns]; exact b1, fun rs => ⟨b2, .inl b3, (fun h => by cases h), rfl⟩⟩
  rename_i h2; rw [if_neg h2]
  split at he
  · rename_i h
    rw [if_pos h]
    simp only [inner, Int.reduceEq, ↓reduceIte] at he ⊢
    have i1 := ((need_st s (t := [119, 104, 105, 108, 101]) (by decide)).io hi)
    obtain ⟨q1, q2⟩ := listsG_snd hL hS 11 s.ns [[100, 111], [100, 111, 110, 101]] [] _ n i1 (by decide) (by rw [need_ns]; exact RK.nil _ _) he
    exact ⟨q1, fun rs => ⟨by show 2 ≤ _; rw [nd, q2]; simp, .inl (by show _ ≤ 2; rw [nd, q2]; simp), (fun h => by cases h), rfl⟩⟩
  rename_i h3; rw [if_neg h3]
  split at he
  · rename_i h
    rw [if_pos h]
    simp only [inner, Int.reduceEq, ↓reduceIte] at he ⊢
    have i1 := ((need_st s (t := [117, 110, 116, 105, 108]) (by decide)).io hi)
    obtain ⟨q1, q2⟩ := listsG_snd hL hS 12 s.ns [[100, 111], [100, 111, 110, 101]] [] _ n i1 (by decide) (by rw [need_ns]; exact RK.nil _ _) he
    exact ⟨q1, fun rs => ⟨by show 2 ≤ _; rw [nd, q2]; simp, .inl (by show _ ≤ 2; rw [nd, q2]; simp), (fun h => by cases h), rfl⟩⟩
  rename_i h4; rw [if_neg h4]
  split at he
  · rename_i h
    rw [if_pos h]
    simp only [inner, Int.reduceEq, ↓reduceIte] at he ⊢
    have i1 := ((need_st s (t := [102, 111, 114]) (by decide)).io hi)
    have i2 := ((name_st _).io i1)
    have i3 := ((forIn_st _).io i2)
    have i4 := ((need_st _ (t := [100, 111]) (by decide)).io i3)
    obtain ⟨q1, q2⟩ := listsG_snd hL hS 13 s.ns [[100, 111, 110, 101]] [] _ n i4 (by decide) (by rw [need_ns, forIn_ns, name_ns, need_ns]; exact RK.nil _ _) he
    have e4 := (lists_one hL [100, 111, 110, 101] [] _ (by decide)).erq i4 he
    have e3 := (need_st _ (t := [100, 111]) (by decide)).erq i3 e4
    have e2 := (forIn_st _).erq i2 e3
    exact ⟨q1, fun rs => ⟨by show 1 ≤ _; rw [q2]; simp, .inl (by show _ ≤ 1; rw [q2]; simp), (fun h => by cases h), name_ok e2⟩⟩
  rename_i h5; rw [if_neg h5]
  split at he
  · rename_i h
    rw [if_pos h]
    simp only [inner, Int.reduceEq, ↓reduceIte] at he ⊢
    have i1 := ((caseHead_st s).io hi)
    obtain ⟨q1, q2⟩ := caseG_snd hL hS s.ns s.caseHead.2.ts.length [] [] s.caseHead.2 n i1 (Nat.le_refl _) rfl (by rw [caseHead_ns]; exact RK.nil _ _) he
    refine ⟨q1, fun rs => ⟨?_, .inl ?_, (fun h => by cases h), rfl⟩⟩
    · show _ ≤ _; unfold kidN; simp; omega
    · show _ ≤ _; unfold kidN; simp; omega
  rename_i h6; rw [if_neg h6]
  simp only [inner, Int.reduceEq, ↓reduceIte] at he
  exact (fail_no he).elim
theorem compound_snd (n b : Nat) (s : S) (hi : InO n o b s) (he : (compound L s).2.err = 0) : RI s.ns (compound L s).2.ns (compound L s).1 := by
  unfold compound at *
  dsimp only at he ⊢
  have i1 := (enter_st s n hi.1).1
  have s2 := inner_st hL s.enter
  have i2 := (s2 n i1).1
  have hr : (inner L s.enter (cKind s.enter.hd.text)).2.leave.redirs.2.err = 0 := he
  have i3 := (((enter_st s).trans s2).leave (by decide) n hi.1).1
  have e3 : (inner L s.enter (cKind s.enter.hd.text)).2.leave.err = 0 := (redirs_st _).err i3 hr
  have e2 : (inner L s.enter (cKind s.enter.hd.text)).2.err = 0 := e3
  obtain ⟨q1, q2⟩ := inner_snd hL hS n _ (enter_io hi (s2.err i1 e2)) e2
  rw [enter_ns] at q1
  refine RK.add' (n := { (inner L s.enter (cKind s.enter.hd.text)).1 with redirs := _ }) ?_ (q2 _)
  have e : (inner L s.enter (cKind s.enter.hd.text)).2.leave.redirs.2.ns = (inner L s.enter (cKind s.enter.hd.text)).2.ns := redirsG_ns _ _ _
  rw [e]
  exact q1
theorem function_snd (n b : Nat) (s : S) (hi : InO n o b s) (he : (function L s).2.err = 0) : RI s.ns (function L s).2.ns (function L s).1 := by
  unfold function at *
  dsimp only at he ⊢
  have s2 := name_st s.enter
  have s3 := need_st s.enter.name.2 (t := [40]) (by decide)
  have s4 := need_st (s.enter.name.2.need [40]) (t := [41]) (by decide)
  have s5 := breaks_st ((s.enter.name.2.need [40]).need [41])
  have i1 := (enter_st s n hi.1).1
  have i2 := (s2 n i1).1
  have i3 := (s3 n i2).1
  have i4 := (s4 n i3).1
  have i5 := (s5 n i4).1
  have e6 : (compound L (((s.enter.name.2.need [40]).need [41]).breaks)).2.err = 0 := by rw [add_err, leave_err] at he; exact he
  have e5 := (compound_st hL _).err i5 e6
  have e4 := s5.err i4 e5
  have e3 := s4.err i3 e4
  have e2 := s3.err i2 e3
  have e1 := s2.err i1 e2
  have j1 := enter_io hi e1
  have j5 := s5.io (s4.io (s3.io (s2.io j1)))
  have r := compound_snd hL hS n _ _ ⟨j5.1, by have := j5.2.1; omega, j5.2.2⟩ e6
  rw [breaks_ns, need_ns, need_ns, name_ns, enter_ns] at r
  have hnm := name_ok e2
  clear he e6 e5 e4 e3 e2 e1 j1 j5 i1 i2 i3 i4 i5 s2 s3 s4 s5
  generalize compound L (((s.enter.name.2.need [40]).need [41]).breaks) = c at *
  generalize s.enter.name.1 = q at *
  refine RK.add' (n := ⟨15, q, false, [], [], [], [], [c.1]⟩) (s := c.2.leave) ?_ ⟨?_, ?_, ?_, ?_⟩
  · rw [leave_ns]; exact RK.one r
  · unfold kidN; simp
  · left; unfold kidN; simp
  · intro h; simp at h
  · show (!(q == [])) = _
    rw [hnm]
    rfl
theorem command_snd (n b : Nat) (s : S) (hi : InO n o b s) (he : (command L s).2.err = 0) : RI s.ns (command L s).2.ns (command L s).1 := by
  unfold command at *
  split at he
  · rename_i h
    rw [if_pos h]
    split at he
    · rename_i h'
      rw [if_pos h']
      exact function_snd hL hS n _ s hi he
    · rename_i h'
      rw [if_neg h']
      exact simple_snd s he
  · rename_i h
    rw [if_neg h]
    exact compound_snd hL hS n _ s hi he
theorem pipeG_snd (ns : List Nd) : ∀ (k : Nat) (l : List Int) (s : S) (n b : Nat), InO n o b s → 0 < l.length → (l.length = 1 → RI ns s.ns (l.headD 0)) → RK 3 ns s.ns l → (pipeG L k l s).2.err = 0 →
    RK 3 ns (pipeG L k l s).2.ns (pipeG L k l s).1 ∧ 0 < (pipeG L k l s).1.length ∧ ((pipeG L k l s).1.length = 1 → RI ns (pipeG L k l s).2.ns ((pipeG L k l s).1.headD 0)) := by
  intro k
  induction k with
  | zero => intro l s n b hi h0 h1 hr he; exact ⟨hr, h0, h1⟩
  | succ k ih =>
    intro l s n b hi h0 h1 hr he
    unfold pipeG at he ⊢
    split at he
    · rename_i h
      rw [if_pos h]
      have ia := ((adv_is (by decide) h).io hi)
      have ib := ((breaks_st _).io ia)
      have sc := command_st hL s.adv.breaks
      have ic := ((sc).io ib)
      have ec := (pipeG_st hL k (l ++ [(command L s.adv.breaks).1]) (command L s.adv.breaks).2).erq ic he
      have r := command_snd hL hS n _ _ ib ec
      exact ih _ _ n _ ic (by simp) (fun h => by rw [List.length_append, List.length_singleton] at h; omega) (hr.snoc r) he
    · rename_i h
      rw [if_neg h]
      exact ⟨hr, h0, h1⟩
theorem pipe_snd (n b : Nat) (s : S) (hi : InO n o b s) (he : (pipe L s).2.err = 0) : RI s.ns (pipe L s).2.ns (pipe L s).1 := by
  unfold pipe at *
  dsimp only at he ⊢
  have i1 := ((may_st s (t := [33]) (by decide)).io hi)
  have i2 := ((command_st hL (s.may [33])).io i1)
  have s3 := pipeG_st hL (command L (s.may [33])).2.ts.length [(command L (s.may [33])).1] (command L (s.may [33])).2
  have i3 := ((s3).io i2)
  have s4 := whole_st (pipeG L (command L (s.may [33])).2.ts.length [(command L (s.may [33])).1] (command L (s.may [33])).2).2 (pipeG L (command L (s.may [33])).2.ts.length [(command L (s.may [33])).1] (command L (s.may [33])).2).1
  have i4 := ((s4).io i3)
  have e4 := (notP_st _ _ _).erq i4 he
  have e3 := s4.erq i3 e4
  have e2 := s3.erq i2 e3
  have r2 := command_snd hL hS n _ _ i1 e2
  rw [may_ns] at r2
  obtain ⟨q1, q2, q3⟩ := pipeG_snd hL hS s.ns _ [(command L (s.may [33])).1] _ n _ i2 (by simp) (fun _ => r2) (RK.one r2) e3
  have rw1 : RI s.ns ((pipeG L (command L (s.may [33])).2.ts.length [(command L (s.may [33])).1] (command L (s.may [33])).2).2.whole (pipeG L (command L (s.may [33])).2.ts.length [(command L (s.may [33])).1] (command L (s.may [33])).2).1).2.ns ((pipeG L (command L (s.may [33])).2.ts.length [(command L (s.may [33])).1] (command L (s.may [33])).2).2.whole (pipeG L (command L (s.may [33])).2.ts.length [(command L (s.may [33])).1] (command L (s.may [33])).2).1).1 := by
    unfold S.whole
    split
    · rename_i h1
      exact RK.add' (n := nd 3 _) q1 ⟨by show 2 ≤ _; exact h1, .inr (.inl rfl), (fun h => by cases h), rfl⟩
    · rename_i h1
      exact q3 (by omega)
  unfold S.notP at he ⊢
  split
  · exact RK.add' (n := nd 2 [_]) (RK.one rw1) ⟨by show 1 ≤ 1; decide, .inl (by show 1 ≤ 1; decide), (fun h => by cases h), rfl⟩
  · exact rw1
theorem andG_snd (ns : List Nd) : ∀ (k : Nat) (i : Int) (s : S) (n b : Nat), InO n o b s → RI ns s.ns i → (andG L k i s).2.err = 0 → RI ns (andG L k i s).2.ns (andG L k i s).1 := by
  intro k
  induction k with
  | zero => intro i s n b hi hr he; exact hr
  | succ k ih =>
    intro i s n b hi hr he
    unfold andG at he ⊢
    split at he
    · rename_i h
      rw [if_pos h]
      dsimp only at he ⊢
      have ib := ((breaks_st _).io ((adv_is (by decide) h).io hi))
      have ip := ((pipe_st hL s.adv.breaks).io ib)
      have ia := ((add_st _ (nd 5 [i, (pipe L s.adv.breaks).1])).io ip)
      have ea := (andG_st hL k _ _).erq ia he
      have ep : (pipe L s.adv.breaks).2.err = 0 := ea
      have r := pipe_snd hL hS n _ _ ib ep
      exact ih _ _ n _ ia (RK.add' (n := nd 5 _) ((RK.one hr).snoc r) ⟨by show 2 ≤ 2; decide, .inl (by show 2 ≤ 2; decide), (fun h => by cases h), rfl⟩) he
    · rename_i h
      rw [if_neg h]
      split at he
      · rename_i h'
        rw [if_pos h']
        dsimp only at he ⊢
        have ib := ((breaks_st _).io ((adv_is (by decide) h').io hi))
        have ip := ((pipe_st hL s.adv.breaks).io ib)
        have ia := ((add_st _ (nd 4 [i, (pipe L s.adv.breaks).1])).io ip)
        have ea := (andG_st hL k _ _).erq ia he
        have ep : (pipe L s.adv.breaks).2.err = 0 := ea
        have r := pipe_snd hL hS n _ _ ib ep
        exact ih _ _ n _ ia (RK.add' (n := nd 4 _) ((RK.one hr).snoc r) ⟨by show 2 ≤ 2; decide, .inl (by show 2 ≤ 2; decide), (fun h => by cases h), rfl⟩) he
      · rename_i h'
        rw [if_neg h']
        exact hr
theorem item_snd (n b : Nat) (s : S) (hi : InO n o b s) (he : (item L s).2.err = 0) : RI s.ns (item L s).2.ns (item L s).1 := by
  unfold item at *
  dsimp only at he ⊢
  have ip := ((pipe_st hL s).io hi)
  have ep := (andG_st hL _ _ _).erq ip he
  exact andG_snd hL hS s.ns _ _ _ n _ ip (pipe_snd hL hS n _ s hi ep) he
theorem itemsG_snd (ns : List Nd) : ∀ (k : Nat) (l : List Int) (b : Bool) (s : S) (n d : Nat), InO n o d s → s.ts.length ≤ k → RK 6 ns s.ns l → (l = [] → s.ns = ns) → (itemsG L k l b s).2.err = 0 →
    RK 6 ns (itemsG L k l b s).2.ns (itemsG L k l b s).1.1 ∧ 0 < (itemsG L k l b s).1.1.length ∧ ((itemsG L k l b s).1.1.length = 1 → RI ns (itemsG L k l b s).2.ns ((itemsG L k l b s).1.1.headD 0)) := by
  intro k
  induction k with
  | zero => intro l b s n d hi hk; have := hi.1.good.ne; omega
  | succ k ih =>
    intro l b s n d hi hk hr hl0 he
    unfold itemsG at he ⊢
    dsimp only at he ⊢
    have i1 := ((item_st hL s).io hi)
    have i2 := ((backed_st (item L s).2 (item L s).1).io i1)
    have s3 := seps_st (backed (item L s).2 (item L s).1).2 ((item L s).2.is [38])
    have i3 := ((s3).io i2)
    have i4 := ((breaks_st _).io i3)
    have hbk : (item L s).2.err = 0 → RI s.ns (backed (item L s).2 (item L s).1).2.ns (backed (item L s).2 (item L s).1).1 := by
      intro e
      have r := item_snd hL hS n _ s hi e
      unfold backed
      split
      · exact RK.add' (n := nd 7 [_]) (s := (item L s).2.adv) (RK.one r) ⟨by show 1 ≤ 1; decide, .inl (by show 1 ≤ 1; decide), (fun h => by cases h), rfl⟩
      · exact r
    have hns : ((backed (item L s).2 (item L s).1).2.seps ((item L s).2.is [38])).2.breaks.ns = (backed (item L s).2 (item L s).1).2.ns := by
      rw [breaks_ns]
      unfold S.seps
      split
      · rfl
      · split
        · rfl
        · split <;> rfl
    have herr : ((backed (item L s).2 (item L s).1).2.seps ((item L s).2.is [38])).2.breaks.err = 0 → (item L s).2.err = 0 := fun e =>
      (backed_st _ _).erq i1 (s3.erq i2 ((breaks_st _).erq i3 e))
    split at he
    · rename_i h
      rw [if_pos h]
      rw [Bool.and_eq_true] at h
      have e4 := (itemsG_st hL k _ _ _).erq i4 he
      have r := hbk (herr e4)
      have l1 := ((item_st hL s) n hi.1).2.1.suf.length_le
      have l2 := (seps_more (item L s).2 (item L s).1 h.1 n i1.1).2.2.2
      have l3 := (breaks_st ((backed (item L s).2 (item L s).1).2.seps ((item L s).2.is [38])).2 n i3.1).2.1.suf.length_le
      have l4 := (seps_more (item L s).2 (item L s).1 h.1 n i1.1).2.1.pre.length_le
      unfold pot at l2
      refine ih _ _ _ n _ i4 (by omega) (by rw [hns]; exact hr.snoc r) (fun e => by simp at e) he
    · rename_i h
      rw [if_neg h]
      have r := hbk (herr he)
      refine ⟨by rw [hns]; exact hr.snoc r, by simp, fun h1 => ?_⟩
      have e0 : l = [] := by rw [List.length_append] at h1; simp at h1; exact h1
      rw [hns, ← hl0 e0, e0]
      exact r
theorem list1_snd : Lss o (list1 L) := by
  intro n s hi he
  unfold list1 at *
  dsimp only at he ⊢
  have i1 := (breaks_st s).io hi
  have s2 := itemsG_st hL s.breaks.ts.length [] false s.breaks
  have e2 := (seqs_st _ _ _).err (s2 n i1.1).1 he
  obtain ⟨q1, q2, q3⟩ := itemsG_snd hL hS s.ns _ [] false s.breaks n _ i1 (Nat.le_refl _) (RK.nil _ _) (fun _ => rfl) e2
  unfold S.seqs
  split
  · rename_i h
    rw [Bool.and_eq_true, beq_iff_eq] at h
    exact q3 h.1
  · exact RK.add' (n := nd 6 _) q1 ⟨by show 1 ≤ _; exact q2, .inr (.inr rfl), (fun h => by cases h), rfl⟩
end
theorem listD_snd : ∀ d, Lss (25 - d) (listD d) := by
  intro d
  induction d with
  | zero =>
    intro n s hi he
    unfold listD at he ⊢
    exact list1_snd (L := fun s => (0, s)) (o := 25) (fun s => (St.refl s).le (by decide)) (fun n s hi => by have := hi.2; omega) n s hi he
  | succ d ih =>
    intro n s hi he
    unfold listD at he ⊢
    by_cases hd : d < 25
    · exact list1_snd (o := 25 - (d + 1)) (listD_st d) (by rw [show 25 - (d + 1) + 1 = 25 - d by omega]; exact ih) n s hi he
    · exact list1_snd (o := 25 - (d + 1)) (listD_st d) (fun n s hi => ih n s ⟨hi.1, by omega, hi.2.2⟩) n s hi he
/-- the nodes of a text, where it has some. -/
theorem parseT_snd {ts : List Tk} {n : Nat} (hg : Good n ts) (he : (parseT ts).2.2 = 0) : ∃ bs, Snd (parseT ts).1 bs ∧ (parseT ts).1.length ≤ 300 ∧ (0 < (parseT ts).1.length → bs.getD ((parseT ts).1.length - 1) 0 = 0) := by
  unfold parseT at *
  dsimp only at he ⊢
  have hi : Inv n ⟨ts, [], 0, 0, 0⟩ := ⟨hg, fun h => absurd rfl h, Nat.zero_le _⟩
  split at he
  · rename_i h; exact absurd he h
  · rename_i h
    rw [if_neg h]
    split at he
    · cases he
    · rename_i h3
      rw [if_neg h3]
      have h0 : (script ⟨ts, [], 0, 0, 0⟩).err = 0 := by
        by_cases e : (script ⟨ts, [], 0, 0, 0⟩).err = 0
        · exact e
        · exact absurd e h
      show ∃ bs, Snd (script ⟨ts, [], 0, 0, 0⟩).ns bs ∧ _
      unfold script at h0 h3 ⊢
      dsimp only at h0 h3 ⊢
      have ib := (breaks_st ⟨ts, [], 0, 0, 0⟩ n hi).1
      have key : ∀ t : S, (t.ns = [] ∨ RI [] t.ns ((t.ns.length : Int) - 1)) → t.ns.length ≤ 300 → ∃ bs, Snd t.ns bs ∧ t.ns.length ≤ 300 ∧ (0 < t.ns.length → bs.getD (t.ns.length - 1) 0 = 0) := by
        intro t ht hl
        have hs0 : Snd [] [] := ⟨rfl, fun j => by simp, fun i n h => by simp at h⟩
        rcases ht with ht | ht
        · exact ⟨[], by rw [ht]; exact hs0, hl, fun h => by rw [ht] at h; simp at h⟩
        · obtain ⟨cs, k1, k2, k3, k4⟩ := ht [] hs0
          exact ⟨[] ++ cs, k1, hl, fun _ => k4⟩
      have hlast : ∀ t : S, (if t.hd.kind = 4 then t else t.fail).err = 0 → (if t.hd.kind = 4 then t else t.fail) = t := by
        intro t h
        split at h
        · rename_i h'; rw [if_pos h']
        · exact (fail_no h).elim
      rw [hlast _ h0] at h3 ⊢
      rw [hlast _ h0] at h0
      refine key _ ?_ (by omega)
      split
      · rename_i hb
        rw [if_pos hb] at h0
        have r := listD_snd 25 n _ ⟨ib, Nat.zero_le _, by show 0 ≤ 25; decide⟩ h0
        have r' := r
        rw [breaks_ns] at r
        right
        have e : (listD 25 (S.breaks ⟨ts, [], 0, 0, 0⟩)).1 = ((listD 25 (S.breaks ⟨ts, [], 0, 0, 0⟩)).2.ns.length : Int) - 1 := by
          obtain ⟨cs, k1, k2, k3, k4⟩ := r [] ⟨rfl, fun j => by simp, fun i n h => by simp at h⟩
          exact k3
        rw [e] at r
        exact r
      · exact .inl rfl
end Go.Proofs.Ytoahgblgchmclaa
