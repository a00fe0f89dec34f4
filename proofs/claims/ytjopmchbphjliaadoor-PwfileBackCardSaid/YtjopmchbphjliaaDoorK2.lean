/- What Parse takes is what Print gives: plain facts. -/
import Derived.Test.YtjopmchbphjliaaDoorK1
import Derived.Test.YtjopmchbphjliaaDoorP1
namespace Go.Proofs.YtjopmchbphjliaaDoor
open Go.RowKit Go.Shelf

theorem goU_sound : ∀ (ls : List ByteArray) (seen us : List Usr), goU seen ls = (us, 0, 0) → ∃ new, us = seen ++ new ∧ rightF seen new = true ∧ ls.map (·.data.toList) = new.map lineS ∧ (seen.length ≤ 8 → us.length ≤ 8)
  | [], seen, us, h => by
    rw [goU] at h
    cases h
    exact ⟨[], by simp, rfl, rfl, id⟩
  | s :: r, seen, us, h => by
    rw [goU] at h
    by_cases hk : (nextS seen s).2 = 0
    · rw [if_pos hk] at h
      obtain ⟨new, h1, h2, h3, h4⟩ := goU_sound r _ us h
      obtain ⟨k1, k2, k3⟩ := next_ok hk
      obtain ⟨u1, u2⟩ := user_right k1
      refine ⟨(nextS seen s).1 :: new, by rw [h1]; simp, ?_, ?_, fun _ => h4 (by simp; omega)⟩
      · rw [rightF, u1, k2, h2]; rfl
      · rw [List.map_cons, List.map_cons, h3, u2]
    · rw [if_neg hk] at h
      cases h
theorem goU_next {seen : List Usr} {s : ByteArray} {u : Usr} (hu : rightU u = true) (hs : s.data.toList = lineS u) (hn : seen.any (qName u.name) = false) (h8 : seen.length < 8) : nextS seen s = (u, 0) := by
  unfold nextS
  rw [user_of hu hs.symm]
  simp only
  rw [hn, if_neg Bool.false_ne_true, if_neg (by omega)]
theorem goU_complete : ∀ (ls : List ByteArray) (seen new : List Usr) (r : List ByteArray), rightF seen new = true → (seen ++ new).length ≤ 8 → ls.map (·.data.toList) = new.map lineS → goU seen (ls ++ r) = goU (seen ++ new) r
  | [], seen, new, r, _, _, h => by
    have : new = [] := by cases new with | nil => rfl | cons a b => simp at h
    subst this; simp
  | s :: ls, seen, [], r, _, _, h => by simp at h
  | s :: ls, seen, u :: new, r, hf, hl, h => by
    rw [rightF, Bool.and_eq_true, Bool.and_eq_true] at hf
    obtain ⟨h1, h2, h3⟩ := hf
    simp only [List.map_cons, List.cons.injEq] at h
    rw [List.length_append, List.length_cons] at hl
    have hn := goU_next h1 h.1 (by simpa using h2) (by omega)
    rw [List.cons_append, goU, hn, if_pos rfl]
    show goU (seen ++ [u]) (ls ++ r) = _
    rw [goU_complete ls (seen ++ [u]) new r h3 (by simp; omega) h.2]
    simp
theorem goU_err : ∀ (ls : List ByteArray) (seen us : List Usr) (k e : Nat), goU seen ls = (us, k, e) → e ≠ 0 → us = [] ∧ 0 < k
  | [], seen, us, k, e, h, he => by rw [goU] at h; cases h; exact absurd rfl he
  | s :: r, seen, us, k, e, h, he => by
    rw [goU] at h
    by_cases hk : (nextS seen s).2 = 0
    · rw [if_pos hk] at h; exact goU_err r _ us k e h he
    · rw [if_neg hk] at h; cases h; exact ⟨rfl, Nat.succ_pos _⟩
theorem goU_zero : ∀ (ls : List ByteArray) (seen us : List Usr) (k : Nat), goU seen ls = (us, k, 0) → k = 0
  | [], seen, us, k, h => by rw [goU] at h; cases h; rfl
  | s :: r, seen, us, k, h => by
    rw [goU] at h
    by_cases hk : (nextS seen s).2 = 0
    · rw [if_pos hk] at h; exact goU_zero r _ us k h
    · rw [if_neg hk] at h
      have := congrArg (fun x => x.2.2) h
      exact absurd this hk
theorem lines_flat (l : List UInt8) : (linesS l).flatten = l := by
  induction l with
  | nil => rfl
  | cons c r ih =>
    rw [linesS]
    by_cases h : c = 10
    · rw [if_pos h, List.flatten_cons, ih, h]; rfl
    · rw [if_neg h]
      cases hr : linesS r with
      | nil => rw [hr] at ih; simp at ih; subst ih; rfl
      | cons p ps => rw [hr] at ih; simp only [List.flatten_cons] at ih ⊢; rw [List.cons_append, ih]
theorem linesB_data (s : ByteArray) : (linesB s).map (·.data.toList) = linesS s.data.toList := by
  unfold linesB
  rw [List.map_map]
  exact List.map_id _
theorem bad_ten {l : List UInt8} (h : anyBad l = false) : ∀ c ∈ l, c ≠ 10 := by
  intro c hc e
  subst e
  unfold anyBad at h
  rw [List.any_eq_false] at h
  exact h _ hc (by decide)
theorem place_ten {l : List UInt8} (h : placeB l = true) : ∀ c ∈ l, c ≠ 10 := by
  refine bad_ten ?_
  unfold placeB at h
  rw [Bool.and_eq_true, decide_eq_true_iff] at h
  have h1 := h.1
  unfold splE at h1
  cases hb : anyBad l with
  | false => rfl
  | true =>
    rw [hb] at h1
    by_cases a : l = []
    · rw [if_pos a] at h1; cases h1
    · rw [if_neg a] at h1
      by_cases b : 128 < l.length
      · rw [if_pos b] at h1; cases h1
      · rw [if_neg b] at h1
        by_cases c : anyLong l = true
        · rw [if_pos c] at h1; cases h1
        · rw [if_neg c] at h1; cases h1
theorem name_ten {l : List UInt8} (h : nameU l = true) : ∀ c ∈ l, c ≠ 10 := by
  unfold nameU at h
  rw [Bool.and_eq_true, Bool.and_eq_true, Bool.and_eq_true, List.all_eq_true] at h
  intro c hc e
  have := h.2.2.2 c hc
  subst e
  exact absurd this (by decide)
theorem pass_ten {l : List UInt8} (h : Mx.rightS l = true) : ∀ c ∈ l, c ≠ 10 := by
  unfold Mx.rightS at h
  rw [Bool.or_eq_true, Bool.or_eq_true, beq_iff_eq, beq_iff_eq] at h
  intro c hc e
  subst e
  rcases h with h | h | h
  · rw [h] at hc; cases hc
  · rw [h] at hc; simp at hc
  · obtain ⟨hl, ha⟩ := (Mx.form_iff l).1 h
    obtain ⟨j, hj⟩ := List.getElem?_of_mem hc
    have hjl := (List.getElem?_eq_some_iff.1 hj).1
    have := ha j (by omega)
    unfold Mx.okAt at this
    rw [List.getD_eq_getElem?_getD, hj] at this
    by_cases h4 : j = 4
    · rw [if_pos h4] at this; exact absurd this (by decide)
    · rw [if_neg h4] at this; exact absurd this (by decide)
theorem itoa_ten {n : Int} (h : idB n = true) : ∀ c ∈ Lib.itoa n, c ≠ 10 := by
  rw [itoa_id h]
  intro c hc e
  have := digits_range n.toNat c hc
  subst e
  exact absurd this (by decide)
theorem core_ten {u : Usr} (h : rightU u = true) : ∀ c ∈ coreS u, c ≠ 10 := by
  obtain ⟨h1, h2, h3, h4, h5, h6⟩ := right_parts h
  unfold coreS fieldsS
  rw [join6]
  intro c hc
  simp only [List.mem_append, List.mem_cons, List.mem_nil_iff, or_false] at hc
  rcases hc with hc | rfl | hc | rfl | hc | rfl | hc | rfl | hc | rfl | hc
  · exact name_ten h1 c hc
  · decide
  · exact pass_ten h2 c hc
  · decide
  · exact itoa_ten h3 c hc
  · decide
  · exact itoa_ten h4 c hc
  · decide
  · exact place_ten h5 c hc
  · decide
  · exact place_ten h6 c hc
theorem line_core (u : Usr) : lineS u = coreS u ++ [10] := rfl
theorem lines_of : ∀ (us : List Usr) (r : List UInt8), (∀ u ∈ us, rightU u = true) → linesS (linesOf us ++ r) = us.map lineS ++ linesS r
  | [], r, _ => rfl
  | u :: us, r, h => by
    have e : linesOf (u :: us) ++ r = coreS u ++ 10 :: (linesOf us ++ r) := by
      unfold linesOf
      rw [List.map_cons, List.flatten_cons, line_core, List.append_assoc, List.append_assoc]; rfl
    rw [e, lines_app _ _ (core_ten (h u (by simp))), lines_of us r (fun x hx => h x (by simp [hx]))]
    rfl
theorem str_list (l : List UInt8) : (⟨l.toArray⟩ : ByteArray).data.toList = l := rfl
/-- who is written is read. -/
theorem parse_print {us : List Usr} (h : rightL us = true) (s : ByteArray) (hs : s.data.toList = linesOf us) : parseR s = (us, 0, 0) := by
  obtain ⟨h8, hall⟩ := rightL_parts h
  have hl := linesOf_len us hall
  have hf : rightF [] us = true := by unfold rightL at h; rw [Bool.and_eq_true] at h; exact h.2
  have hsz : s.size ≤ 4096 := by rw [← size_len, hs]; omega
  unfold parseR
  rw [if_neg (by omega)]
  have hls := lines_of us [] hall
  rw [List.append_nil, show linesS [] = [] from rfl, List.append_nil] at hls
  have := goU_complete (linesB s) [] us [] hf (by simpa using h8) (by rw [linesB_data, hs, hls])
  rw [List.append_nil, List.nil_append] at this
  rw [this]; rfl
/-- what is read is written so. -/
theorem parse_sound {s : ByteArray} {us : List Usr} {k : Nat} (h : parseR s = (us, k, 0)) : k = 0 ∧ rightL us = true ∧ linesOf us = s.data.toList ∧ s.size ≤ 4096 := by
  unfold parseR at h
  by_cases hs : 4096 < s.size
  · rw [if_pos hs] at h; cases h
  · rw [if_neg hs] at h
    have hk := goU_zero _ _ _ _ h
    subst hk
    obtain ⟨new, h1, h2, h3, h4⟩ := goU_sound _ _ _ h
    rw [List.nil_append] at h1
    subst h1
    refine ⟨rfl, ?_, ?_, by omega⟩
    · unfold rightL; rw [h2, decide_eq_true (h4 (Nat.zero_le _))]; rfl
    · unfold linesOf
      rw [← h3, linesB_data, lines_flat]
theorem parse_err {s : ByteArray} {us : List Usr} {k e : Nat} (h : parseR s = (us, k, e)) (he : e ≠ 0) : us = [] ∧ (0 < k ∨ 4096 < s.size) := by
  unfold parseR at h
  by_cases hs : 4096 < s.size
  · rw [if_pos hs] at h; cases h; exact ⟨rfl, .inr hs⟩
  · rw [if_neg hs] at h
    obtain ⟨h1, h2⟩ := goU_err _ _ _ _ _ h he
    exact ⟨h1, .inl h2⟩
/-- a file twice, one behind the other. -/
theorem parse_twice {s t : ByteArray} {us : List Usr} (h : rightL us = true) (hs : linesOf us = s.data.toList) (h0 : us ≠ []) (ht : t.data.toList = s.data.toList ++ s.data.toList) (hl : t.size ≤ 4096) : parseR t = ([], us.length + 1, 5) := by
  obtain ⟨h8, hall⟩ := rightL_parts h
  have hf : rightF [] us = true := by unfold rightL at h; rw [Bool.and_eq_true] at h; exact h.2
  unfold parseR
  rw [if_neg (by omega)]
  have hls : (linesB t).map (·.data.toList) = us.map lineS ++ us.map lineS := by
    rw [linesB_data, ht, ← hs, lines_of us _ hall]
    have := lines_of us [] hall
    rw [List.append_nil, show linesS [] = [] from rfl, List.append_nil] at this
    rw [this]
  obtain ⟨u, us', rfl⟩ : ∃ u us', us = u :: us' := by cases us with | nil => exact absurd rfl h0 | cons a b => exact ⟨a, b, rfl⟩
  obtain ⟨l1, l2, he, m1, m2⟩ := List.map_eq_append_iff.1 hls
  rw [he]
  rw [goU_complete l1 [] (u :: us') l2 hf (by simpa using h8) m1, List.nil_append]
  cases l2 with
  | nil => simp at m2
  | cons x r =>
    simp only [List.map_cons, List.cons.injEq] at m2
    have hux := user_of (hall u (by simp)) m2.1.symm
    have hn : nextS (u :: us') x = (noUsr, 5) := by
      unfold nextS
      rw [hux]
      simp only
      rw [if_pos]
      rw [List.any_cons]
      have : qName u.name u = true := by unfold qName; exact beq_self_eq_true _
      rw [this]; rfl
    rw [goU, hn, if_neg (by decide)]
end Go.Proofs.YtjopmchbphjliaaDoor
