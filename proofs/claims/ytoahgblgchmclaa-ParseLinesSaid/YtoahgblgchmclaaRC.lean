/- Two scripts with a line feed between: what the parser makes of their tokens. -/
import Derived.Test.YtoahgblgchmclaaRB
namespace Go.Proofs.Ytoahgblgchmclaa
set_option linter.unusedVariables false
set_option linter.unusedSimpArgs false
set_option linter.unusedSectionVars false
def isNlT (t : Tk) : Bool := t.text == [10]
theorem breaks_ts (s : S) : s.breaks.ts = s.ts.dropWhile isNlT := rfl
theorem breaks_join {c : Ctx} (hc : c.ok) (hq : c.q = false) {n : Nat} {s t : S} (hi : Inv n s) (h : Tw c s t) (h4 : s.breaks.hd.kind = 4) : t.breaks.ts = c.r.dropWhile isNlT := by
  have key : ∀ (k : Nat) (s t : S), s.ts.length ≤ k → Inv n s → Tw c s t → s.breaks.hd.kind = 4 → t.breaks.ts = c.r.dropWhile isNlT := by
    intro k
    induction k with
    | zero => intro s t hk hi; have := hi.good.ne; omega
    | succ k ih =>
      intro s t hk hi h h4
      cases h1 : s.is [10] with
      | true =>
        obtain ⟨h2, h3⟩ := h.isT hi (by decide) h1
        rw [breaks_cons h2]
        rw [breaks_cons h1] at h4
        have hl := (adv_is (by decide) h1).lt (by decide) hi
        exact ih _ _ (by omega) ((adv_is (by decide) h1) n hi).1 h3 h4
      | false =>
        rw [breaks_stop h1] at h4
        rcases h.hd hi with ⟨_, _, h5, _⟩ | ⟨h5, _⟩
        · rw [breaks_ts, h5, List.dropWhile_cons]
          rcases hc with ⟨a, _⟩ | ⟨_, _, b⟩
          · rw [a] at hq; cases hq
          · rw [if_pos (by unfold isNlT; rw [b]; rfl)]
        · exact absurd h4 h5
  exact key _ s t (Nat.le_refl _) hi h h4
theorem seps_join {c : Ctx} (hc : c.ok) (hq : c.q = false) {n : Nat} {s t : S} {f : Bool} (hi : Inv n s) (h : Tw c s t) (h4 : (s.seps f).2.breaks.hd.kind = 4) :
    (t.seps f).1 = true ∧ (t.seps f).2.breaks.ts = c.r.dropWhile isNlT ∧ (t.seps f).2.breaks.ns = t.ns ∧ (t.seps f).2.breaks.opn = t.opn ∧ (t.seps f).2.breaks.err = t.err := by
  unfold S.seps at *
  cases f with
  | true =>
    rw [if_pos rfl] at h4 ⊢
    exact ⟨rfl, breaks_join hc hq hi h h4, rfl, rfl, rfl⟩
  | false =>
    rw [if_neg (by decide)] at h4 ⊢
    rw [h.isEq hc hi (w := [59]) (by decide) (by decide)]
    split at h4
    · rename_i h1
      rw [if_pos h1]
      exact ⟨rfl, breaks_join hc hq ((adv_is (by decide) h1) n hi).1 (h.isT hi (by decide) h1).2 h4, rfl, rfl, rfl⟩
    · rename_i h1
      rw [if_neg h1]
      cases h2 : s.is [10] with
      | true =>
        rw [h2, if_pos rfl] at h4
        obtain ⟨h3, h5⟩ := h.isT hi (by decide) h2
        rw [if_pos h3]
        exact ⟨rfl, breaks_join hc hq ((adv_is (by decide) h2) n hi).1 h5 h4, rfl, rfl, rfl⟩
      | false =>
        rw [h2, if_neg (by decide)] at h4
        have h4' : s.hd.kind = 4 := by
          have e : s.breaks.hd.kind = 4 := h4
          rw [breaks_stop h2] at e; exact e
        rcases h.hd hi with ⟨_, _, h5, h6⟩ | ⟨h5, _⟩
        · rcases hc with ⟨a, _⟩ | ⟨_, _, b⟩
          · rw [a] at hq; cases hq
          · have h7 : t.is [10] = true := by unfold S.is; rw [h6, b]; rfl
            rw [if_pos h7]
            refine ⟨rfl, ?_, rfl, rfl, rfl⟩
            rw [breaks_ts]
            show t.ts.tail.dropWhile isNlT = _
            rw [h5]; rfl
        · exact absurd h4' h5
theorem seps_ns (s : S) (b : Bool) : (s.seps b).2.ns = s.ns := by
  unfold S.seps
  split
  · rfl
  · split
    · rfl
    · split <;> rfl
theorem seps_opn (s : S) (b : Bool) : (s.seps b).2.opn = s.opn := by
  unfold S.seps
  split
  · rfl
  · split
    · rfl
    · split <;> rfl
theorem itemsG_len (L : S → Int × S) : ∀ (k : Nat) (l : List Int) (b : Bool) (s : S), l.length ≤ (itemsG L k l b s).1.1.length ∧ (0 < k → l.length < (itemsG L k l b s).1.1.length) := by
  intro k
  induction k with
  | zero => intro l b s; exact ⟨Nat.le_refl _, fun h => by omega⟩
  | succ k ih =>
    intro l b s
    unfold itemsG
    dsimp only
    split
    · have := (ih (l ++ [(backed (item L s).2 (item L s).1).1]) ((item L s).2.is [38]) ((backed (item L s).2 (item L s).1).2.seps ((item L s).2.is [38])).2.breaks).1
      rw [List.length_append, List.length_singleton] at this
      exact ⟨by omega, fun _ => by omega⟩
    · constructor
      · show l.length ≤ (l ++ [_]).length
        rw [List.length_append]; omega
      · intro _
        show l.length < (l ++ [_]).length
        rw [List.length_append, List.length_singleton]; omega
section
variable {c : Ctx} (hc : c.ok) (hq : c.q = false) {L : S → Int × S} {o : Nat} (hL : Lst L) (hT : LTw c (o + 1) L)
include hc hq hL hT
theorem itemsG_join (hb : bItem ((c.r.dropWhile isNlT).headD endT) = true) : ∀ (k : Nat) (l : List Int) (b b' : Bool) (s t : S) (k' n d : Nat), InO n o d s → s.ts.length ≤ k → k + (c.r.dropWhile isNlT).length ≤ k' → Tw c s t → (itemsG L k l b s).2.err = 0 → (itemsG L k l b s).2.hd.kind = 4 →
    ∃ k'' b'' u, (c.r.dropWhile isNlT).length ≤ k'' ∧ u.ts = c.r.dropWhile isNlT ∧ u.ns = c.pre ++ (itemsG L k l b s).2.ns.map (shN c.m) ∧ u.opn = (itemsG L k l b s).2.opn ∧ u.err = 0 ∧
      itemsG L k' (l.map (sI c.m)) b' t = itemsG L k'' ((itemsG L k l b s).1.1.map (sI c.m)) b'' u := by
  intro k
  induction k with
  | zero => intro l b b' s t k' n d hi hk; have := hi.1.good.ne; omega
  | succ k ih =>
    intro l b b' s t k' n d hi hk hk' h he h4
    obtain ⟨k', rfl⟩ : ∃ j, k' = j + 1 := ⟨k' - 1, by omega⟩
    have ht : ∀ x y, itemsG L (k' + 1) x y t = (let r := item L t; let q := backed r.2 r.1; let p := q.2.seps (r.2.is [38]); if p.1 && bItem p.2.breaks.hd then itemsG L k' (x ++ [q.1]) (r.2.is [38]) p.2.breaks else ((x ++ [q.1], r.2.is [38]), p.2.breaks)) := fun _ _ => rfl
    have hs : ∀ x y, itemsG L (k + 1) x y s = (let r := item L s; let q := backed r.2 r.1; let p := q.2.seps (r.2.is [38]); if p.1 && bItem p.2.breaks.hd then itemsG L k (x ++ [q.1]) (r.2.is [38]) p.2.breaks else ((x ++ [q.1], r.2.is [38]), p.2.breaks)) := fun _ _ => rfl
    rw [ht]
    rw [hs] at he h4 ⊢
    dsimp only at he h4 ⊢
    have i1 := (item_st hL s).io hi
    have i2 := (backed_st (item L s).2 (item L s).1).io i1
    have s3 := seps_st (backed (item L s).2 (item L s).1).2 ((item L s).2.is [38])
    have i3 := s3.io i2
    have i4 := (breaks_st _).io i3
    have herr : ((backed (item L s).2 (item L s).1).2.seps ((item L s).2.is [38])).2.breaks.err = 0 → (item L s).2.err = 0 := fun e =>
      (backed_st _ _).erq i1 (s3.erq i2 ((breaks_st _).erq i3 e))
    have key0 : ((backed (item L s).2 (item L s).1).2.seps ((item L s).2.is [38])).2.breaks.err = 0 →
        (item L t).2.is [38] = (item L s).2.is [38] ∧ (backed (item L t).2 (item L t).1).1 = sI c.m (backed (item L s).2 (item L s).1).1 ∧ Tw c (backed (item L s).2 (item L s).1).2 (backed (item L t).2 (item L t).1).2 := by
      intro e
      obtain ⟨w1, w1b⟩ := item_tw hc hL hT n _ _ _ hi h (herr e)
      obtain ⟨w2, w2b⟩ := backed_tw hc i1.1 w1 w1b
      exact ⟨w1.isEq hc i1.1 (by decide) (by decide), w2b, w2⟩
    split at he
    · rename_i h1
      rw [if_pos h1] at h4 ⊢
      have h1' := h1
      rw [Bool.and_eq_true] at h1
      have e4 := (itemsG_st hL k _ _ _).erq i4 he
      obtain ⟨r1, r2, w2⟩ := key0 e4
      have hx := bItem_end i4.1 h1.2
      obtain ⟨w3, r3⟩ := seps_tw hc (b := (item L s).2.is [38]) i2.1 w2 (.inr fun h4 => hx ((breaks_st _).fin i3.1 (s3.fin i2.1 h4)))
      have r4 := w3.breaks hc i3.1 (.inr hx)
      rw [r1]
      have hcond : (((backed (item L t).2 (item L t).1).2.seps ((item L s).2.is [38])).1 && bItem ((backed (item L t).2 (item L t).1).2.seps ((item L s).2.is [38])).2.breaks.hd) = true := by
        rw [r3, r4.bItem hc i4.1]; exact h1'
      rw [if_pos hcond]
      have l1 := (item_st hL s).len hi.1
      have l2 := (seps_more (item L s).2 (item L s).1 h1.1).lt (by decide) i1.1
      have l3 := (breaks_st ((backed (item L s).2 (item L s).1).2.seps ((item L s).2.is [38])).2).len i3.1
      have := ih (l ++ [(backed (item L s).2 (item L s).1).1]) ((item L s).2.is [38]) ((item L s).2.is [38]) _ _ k' n _ i4 (by omega) (by omega) r4 he h4
      rw [r2]
      rw [List.map_append] at this
      exact this
    · rename_i h1
      rw [if_neg h1] at h4 ⊢
      obtain ⟨r1, r2, w2⟩ := key0 he
      rw [r1]
      obtain ⟨j1, j2, j3, j4, j5⟩ := seps_join hc hq (f := (item L s).2.is [38]) i2.1 w2 h4
      have hcond : (((backed (item L t).2 (item L t).1).2.seps ((item L s).2.is [38])).1 && bItem ((backed (item L t).2 (item L t).1).2.seps ((item L s).2.is [38])).2.breaks.hd) = true := by
        rw [j1]
        show bItem (((backed (item L t).2 (item L t).1).2.seps ((item L s).2.is [38])).2.breaks.ts.headD endT) = true
        rw [j2]; exact hb
      rw [if_pos hcond]
      refine ⟨k', (item L s).2.is [38], _, by omega, j2, ?_, ?_, by rw [j5]; exact w2.e2, ?_⟩
      · rw [j3, w2.ns]
        show _ = c.pre ++ (((backed (item L s).2 (item L s).1).2.seps ((item L s).2.is [38])).2.ns).map _
        rw [seps_ns]
      · rw [j4, w2.opn]
        show _ = ((backed (item L s).2 (item L s).1).2.seps ((item L s).2.is [38])).2.opn
        rw [seps_opn]
      · rw [r2, List.map_append]; rfl
end
/-- a script that has nodes. -/
theorem script_ok {n : Nat} {ts : List Tk} {x : List Nd} (hg : Good n ts) (hx : parseT ts = (x, 0, 0)) (h0 : 0 < x.length) :
    let s : S := ⟨ts, [], 0, 0, 0⟩
    bItem s.breaks.hd = true ∧ (itemsG (listD 24) s.breaks.breaks.ts.length [] false s.breaks.breaks).2.err = 0 ∧ (itemsG (listD 24) s.breaks.breaks.ts.length [] false s.breaks.breaks).2.hd.kind = 4 ∧
      ((itemsG (listD 24) s.breaks.breaks.ts.length [] false s.breaks.breaks).2.seqs (itemsG (listD 24) s.breaks.breaks.ts.length [] false s.breaks.breaks).1.1 (itemsG (listD 24) s.breaks.breaks.ts.length [] false s.breaks.breaks).1.2).2.ns = x := by
  intro s
  have hi : Inv n s := ⟨hg, fun h => absurd rfl h, Nat.zero_le _⟩
  have ib := (breaks_st s n hi).1
  have ibb := (breaks_st s.breaks n ib).1
  unfold parseT at hx
  dsimp only at hx
  have hs : (script s).err = 0 ∧ (script s).ns = x := by
    have e : (script s) = script ⟨ts, [], 0, 0, 0⟩ := rfl
    rw [← e] at hx
    split at hx
    · rename_i h1
      exfalso
      injection hx with h2 h3
      injection h3 with h3 h4
      exact h1 h4
    · rename_i h1
      split at hx
      · injection hx with h2 h3
        injection h3 with h3 h4
        cases h4
      · injection hx with h2 h3
        exact ⟨Decidable.byContradiction h1, h2⟩
  obtain ⟨he, hn⟩ := hs
  unfold script at he hn
  dsimp only at he hn
  cases hb : bItem s.breaks.hd with
  | false =>
    exfalso
    rw [hb] at hn
    simp only [Bool.false_eq_true, if_false] at hn
    have : x = [] := by
      rw [← hn]
      split
      · rfl
      · rw [fail_ns]; rfl
    rw [this] at h0
    simp at h0
  | true =>
    rw [hb, if_pos rfl] at he hn
    have hl : listD 25 s.breaks = list1 (listD 24) s.breaks := rfl
    rw [hl] at he hn
    unfold list1 at he hn
    dsimp only at he hn
    split at he
    · rename_i h4
      rw [if_pos h4] at hn
      rw [seqs_ts] at h4
      have s2 := itemsG_st (listD_st 24) s.breaks.breaks.ts.length [] false s.breaks.breaks
      exact ⟨rfl, (seqs_st _ _ _).err (s2 n ibb).1 he, h4, hn⟩
    · exact (fail_no he).elim
theorem seqs_ns (s : S) (l : List Int) (b : Bool) : s.ns.length ≤ (s.seqs l b).2.ns.length ∧ (s.seqs l b).2.ns.length ≤ s.ns.length + 1 := by
  unfold S.seqs
  split
  · exact ⟨Nat.le_refl _, Nat.le_succ _⟩
  · show s.ns.length ≤ (s.ns ++ [_]).length ∧ (s.ns ++ [_]).length ≤ _
    rw [List.length_append, List.length_singleton]; omega
theorem drop_nl (k : Nat) (eb ez : Tk) (h1 : isNlT eb = false) (h2 : isNlT ez = false) : ∀ (u : List Tk), (u.map (mvT k) ++ [ez]).dropWhile isNlT = ((u ++ [eb]).dropWhile isNlT).dropLast.map (mvT k) ++ [ez] := by
  intro u
  induction u with
  | nil => simp [List.dropWhile_cons, h1, h2]
  | cons a r ih =>
    rw [List.map_cons, List.cons_append, List.cons_append, List.dropWhile_cons, List.dropWhile_cons]
    have e : isNlT (mvT k a) = isNlT a := rfl
    rw [e]
    cases ha : isNlT a with
    | true => rw [if_pos rfl, if_pos rfl]; exact ih
    | false =>
      rw [if_neg (by decide), if_neg (by decide)]
      have e2 : (a :: (r ++ [eb])).dropLast = a :: r := by rw [← List.cons_append, List.dropLast_concat]
      rw [e2]; rfl
theorem mvT0 (u : List Tk) : u.map (mvT 0) = u := by
  induction u with
  | nil => rfl
  | cons a r ih => rw [List.map_cons, ih]; rfl
theorem parse_join {n n2 kk : Nat} {ua ub : List Tk} {ea eb ez nl : Tk} {x y : List Nd} (ha : Good n (ua ++ [ea])) (hb : Good n2 (ub ++ [eb])) (hx : parseT (ua ++ [ea]) = (x, 0, 0)) (hx0 : 0 < x.length)
    (hy : parseT (ub ++ [eb]) = (y, 0, 0)) (hy0 : 0 < y.length) (hez : ez.kind = 4 ∧ ez.text = []) (hnl : nl.kind = 2 ∧ nl.text = [10]) :
    ∃ z w, w.kind = 6 ∧ x.length ≤ z.length + 1 ∧ z.length ≤ x.length + y.length ∧ parseT (ua ++ nl :: (ub.map (mvT kk) ++ [ez])) = if 300 < z.length + 1 then ([], 0, 12) else (z ++ [w], 0, 0) := by
  obtain ⟨a1, a2, a3, a4⟩ := script_ok ha hx hx0
  obtain ⟨b1, b2, b3, b4⟩ := script_ok hb hy hy0
  have hia : Inv n ⟨ua ++ [ea], [], 0, 0, 0⟩ := ⟨ha, fun h => absurd rfl h, Nat.zero_le _⟩
  have hib : Inv n2 ⟨ub ++ [eb], [], 0, 0, 0⟩ := ⟨hb, fun h => absurd rfl h, Nat.zero_le _⟩
  have hst : ∀ x, parseT x = (if ¬ (script ⟨x, [], 0, 0, 0⟩).err = 0 then ([], (script ⟨x, [], 0, 0, 0⟩).at_, (script ⟨x, [], 0, 0, 0⟩).err) else if 300 < (script ⟨x, [], 0, 0, 0⟩).ns.length then ([], 0, 12) else ((script ⟨x, [], 0, 0, 0⟩).ns, 0, 0)) := fun _ => rfl
  rw [hst]
  have hsc : ∀ s : S, bItem s.breaks.hd = true → script s = (let r := itemsG (listD 24) s.breaks.breaks.ts.length [] false s.breaks.breaks; let t := (r.2.seqs r.1.1 r.1.2).2; if t.hd.kind = 4 then t else t.fail) := by
    intro s hs
    unfold script
    rw [hs]
    rfl
  let c1 : Ctx := ⟨0, [], nl, ub.map (mvT kk) ++ [ez], false⟩
  have hc1 : c1.ok := .inr ⟨rfl, hnl⟩
  obtain ⟨sa, hsa⟩ : ∃ sa : S, sa = ⟨ua ++ [ea], [], 0, 0, 0⟩ := ⟨_, rfl⟩
  obtain ⟨sb, hsb⟩ : ∃ sb : S, sb = ⟨ub ++ [eb], [], 0, 0, 0⟩ := ⟨_, rfl⟩
  obtain ⟨st, hst2⟩ : ∃ st : S, st = ⟨ua ++ nl :: (ub.map (mvT kk) ++ [ez]), [], 0, 0, 0⟩ := ⟨_, rfl⟩
  have w0 : Tw c1 sa st := by
    subst hsa; subst hst2
    refine ⟨?_, rfl, rfl, rfl, rfl⟩
    show _ = (ua ++ [ea]).dropLast.map (mvT 0) ++ _
    rw [List.dropLast_concat, mvT0]
  rw [← hsa] at a1 a2 a3 a4 hia
  rw [← hsb] at b1 b2 b3 b4 hib
  rw [← hst2]
  have oa : sa.opn = 0 := by rw [hsa]
  have ob : sb.opn = 0 := by rw [hsb]
  have nb : sb.ns = [] := by rw [hsb]
  have ttb : sb.ts = ub ++ [eb] := by rw [hsb]
  have errb : sb.err = 0 := by rw [hsb]
  clear hst
  have iba := (breaks_st sa n hia).1
  have ibba := (breaks_st sa.breaks n iba).1
  have ibb := (breaks_st sb n2 hib).1
  have ibbb := (breaks_st sb.breaks n2 ibb).1
  have hka := bItem_end iba a1
  have w1 := w0.breaks hc1 hia (.inr hka)
  have hbt : bItem st.breaks.hd = true := by rw [w1.bItem hc1 iba]; exact a1
  have hLk : (itemsG (listD 24) sa.breaks.breaks.ts.length [] false sa.breaks.breaks).2.err = 0 := a2
  have w2 := w1.breaks hc1 iba (.inr (itemsG_end hc1 (listD_st 24) ibba ibba.good.ne a2))
  have hscr := hsc st hbt
  dsimp only at hscr
  have hnz : isNlT ez = false := by unfold isNlT; rw [hez.2]; rfl
  have hnb : isNlT eb = false := by
    have hl := hb.last
    have e1 : lastT (ub ++ [eb]) = [eb] := by unfold lastT; rw [List.length_append, List.length_singleton, Nat.add_sub_cancel, List.drop_left]
    rw [e1] at hl
    unfold isNlT; rw [hl.1.2.1]; rfl
  have hB : c1.r.dropWhile isNlT = sb.breaks.breaks.ts.dropLast.map (mvT kk) ++ [ez] := by
    have e : sb.breaks.breaks.ts = (ub ++ [eb]).dropWhile isNlT := by
      rw [breaks_ts, breaks_ts, ttb]
      have hid : ∀ l : List Tk, (l.dropWhile isNlT).dropWhile isNlT = l.dropWhile isNlT := by
        intro l
        induction l with
        | nil => rfl
        | cons a r ih =>
          rw [List.dropWhile_cons]
          cases h : isNlT a with
          | true => rw [if_pos rfl]; exact ih
          | false => rw [if_neg (by decide), List.dropWhile_cons, h, if_neg (by decide)]
      exact hid _
    rw [e]
    exact drop_nl kk eb ez hnb hnz ub
  have hBn : (c1.r.dropWhile isNlT).length = sb.breaks.breaks.ts.length := by
    rw [hB, List.length_append, List.length_map, List.length_dropLast, List.length_singleton]
    have := ibbb.good.ne
    omega
  have hbb : sb.breaks.breaks = sb.breaks := by
    refine breaks_stop ?_
    cases h : sb.breaks.is [10] with
    | false => rfl
    | true =>
      have : bItem sb.breaks.hd = false := by
        unfold S.is at h
        rw [beq_iff_eq] at h
        have hk : sb.breaks.hd.kind = 2 := by
          rcases ibb.next with ⟨_, h1, _⟩ | ⟨_, u, r, _, hg, _⟩
          · rw [h1] at h; cases h
          · rcases hg.2.2.2 with ⟨k, _⟩ | ⟨_, k⟩ | ⟨_, d, k, kd⟩
            · exact k
            · rw [h] at k; exact absurd k (by decide)
            · rw [k] at h; injection h with h; subst h; exact absurd kd (by decide)
        unfold bItem bRedir bFirst
        rw [h, hk]; decide
      rw [this] at b1; cases b1
  have hbI : bItem ((c1.r.dropWhile isNlT).headD endT) = true := by
    have hk := bItem_end ibb b1
    rw [hB, hbb]
    rcases ibb.next with ⟨h1, _⟩ | ⟨_, u, r, h1, hg, _⟩
    · exact absurd h1 hk
    · rw [h1, List.dropLast_cons_cons]
      exact b1
  have hfuel : sa.breaks.breaks.ts.length + (c1.r.dropWhile isNlT).length ≤ st.breaks.breaks.ts.length := by
    rw [w2.ts, List.length_append, List.length_map, List.length_dropLast, List.length_cons]
    have h1 := ibba.good.ne
    have h2 := (List.dropWhile_suffix (l := c1.r) isNlT).length_le
    omega
  have oba : InO n 0 25 sa.breaks.breaks := ⟨ibba, Nat.zero_le _, by show sa.opn ≤ 25; rw [oa]; decide⟩
  obtain ⟨k'', b'', u, u1, u2, u3, u4, u5, u6⟩ := itemsG_join hc1 rfl (listD_st 24) (o := 0) (listD_tw hc1 24) hbI _ [] false false _ _ _ n 25 oba (Nat.le_refl _) hfuel w2 a2 a3
  rw [List.map_nil] at u6
  rw [u6] at hscr
  have sga := itemsG_st (listD_st 24) sa.breaks.breaks.ts.length [] false sa.breaks.breaks
  have oga := (sga n ibba).2.2.1
  have lga := (itemsG_len (listD 24) sa.breaks.breaks.ts.length [] false sa.breaks.breaks).2 ibba.good.ne
  have lgb := (itemsG_len (listD 24) sb.breaks.breaks.ts.length [] false sb.breaks.breaks).2 ibbb.good.ne
  have q1 := seqs_ns (itemsG (listD 24) sa.breaks.breaks.ts.length [] false sa.breaks.breaks).2 (itemsG (listD 24) sa.breaks.breaks.ts.length [] false sa.breaks.breaks).1.1 (itemsG (listD 24) sa.breaks.breaks.ts.length [] false sa.breaks.breaks).1.2
  have q2 := seqs_ns (itemsG (listD 24) sb.breaks.breaks.ts.length [] false sb.breaks.breaks).2 (itemsG (listD 24) sb.breaks.breaks.ts.length [] false sb.breaks.breaks).1.1 (itemsG (listD 24) sb.breaks.breaks.ts.length [] false sb.breaks.breaks).1.2
  rw [a4] at q1
  rw [b4] at q2
  let c2 : Ctx := ⟨kk, u.ns, ez, [], true⟩
  have hc2 : c2.ok := .inl ⟨rfl, hez⟩
  have w3 : Tw c2 sb.breaks.breaks u := by
    refine ⟨by rw [u2, hB], ?_, ?_, errb, u5⟩
    · show u.ns = u.ns ++ sb.ns.map _
      rw [nb]; simp
    · rw [u4]
      show (itemsG (listD 24) sa.breaks.breaks.ts.length [] false sa.breaks.breaks).2.opn = sb.opn
      have : sa.breaks.breaks.opn = 0 := oa
      rw [ob]
      omega
  have obb : InO n2 0 25 sb.breaks.breaks := ⟨ibbb, Nat.zero_le _, by show sb.opn ≤ 25; rw [ob]; decide⟩
  obtain ⟨v1, v2, v3⟩ := itemsG_tw hc2 (listD_st 24) (o := 0) (listD_tw hc2 24) ((itemsG (listD 24) sa.breaks.breaks.ts.length [] false sa.breaks.breaks).1.1.map (sI c1.m)) sb.breaks.breaks.ts.length [] false b'' _ u k'' n2 25 obb (Nat.le_refl _) (by omega) w3 b2 (.inl rfl)
  rw [List.map_nil, List.append_nil] at v1 v2 v3
  have igb := (itemsG_st (listD_st 24) sb.breaks.breaks.ts.length [] false sb.breaks.breaks n2 ibbb).1
  have n3 : u.ns.length = (itemsG (listD 24) sa.breaks.breaks.ts.length [] false sa.breaks.breaks).2.ns.length := by
    rw [u3, List.length_append, List.length_map]; show 0 + _ = _; omega
  generalize itemsG (listD 24) sa.breaks.breaks.ts.length [] false sa.breaks.breaks = ra at *
  generalize itemsG (listD 24) sb.breaks.breaks.ts.length [] false sb.breaks.breaks = rb at *
  generalize itemsG (listD 24) k'' (ra.1.1.map (sI c1.m)) b'' u = rr at *
  have hlen2 : ¬ (rr.1.1.length == 1 && !rr.1.2) = true := by
    rw [v2, List.length_append, List.length_map, List.length_map]
    intro hh
    rw [Bool.and_eq_true, beq_iff_eq] at hh
    simp only [List.length_nil] at lga lgb
    omega
  have hsq : rr.2.seqs rr.1.1 rr.1.2 = rr.2.add (nd 6 rr.1.1) := by unfold S.seqs; rw [if_neg hlen2]
  rw [hsq] at hscr
  have hhd : (rr.2.add (nd 6 rr.1.1)).2.hd.kind = 4 := by
    show rr.2.hd.kind = 4
    rcases v1.hd igb with ⟨_, _, _, h5⟩ | ⟨h5, _⟩
    · rw [h5]; exact hez.1
    · exact absurd b3 h5
  rw [if_pos hhd] at hscr
  rw [hscr]
  have her : (rr.2.add (nd 6 rr.1.1)).2.err = 0 := v1.e2
  have hns : (rr.2.add (nd 6 rr.1.1)).2.ns = rr.2.ns ++ [nd 6 rr.1.1] := rfl
  have hln : rr.2.ns.length = ra.2.ns.length + rb.2.ns.length := by
    rw [v1.ns, List.length_append, List.length_map]
    show u.ns.length + _ = _
    rw [n3]
  rw [if_neg (by rw [her]; exact fun h => h rfl), hns]
  refine ⟨rr.2.ns, nd 6 rr.1.1, rfl, by omega, by omega, ?_⟩
  rw [List.length_append, List.length_singleton]
end Go.Proofs.Ytoahgblgchmclaa
