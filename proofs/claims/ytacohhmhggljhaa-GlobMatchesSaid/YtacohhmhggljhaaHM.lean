/- What the laws ask of patterns, as plain facts; the contract of shown. -/
import Derived.Test.YtacohhmhggljhaaHK
import Derived.Test.YtacohhmhggljhaaHL
namespace Go.Proofs.Ytacohhmhggljhaa
open Go.RowKit
set_option linter.unusedVariables false
set_option linter.unusedSimpArgs false
def qt (c : UInt8) : Tok := (c, spc c)
theorem qt_ne (c n : UInt8) (hn : spc n = true) : qt c ≠ (n, false) := fun e => by
  unfold qt at e
  injection e with e1 e2
  rw [e1, hn] at e2
  cases e2
theorem toks_quo (s r : List UInt8) : toks (quo s ++ r) = s.map qt ++ toks r := by
  induction s with
  | nil => rfl
  | cons c s ih =>
    rw [quo]
    cases hc : spc c
    · rw [if_neg (by decide), List.cons_append, toks_one _ _ (fun e => by rw [e] at hc; cases hc), ih]
      simp [qt, hc]
    · rw [if_pos rfl, List.cons_append, List.cons_append, toks_two, ih]
      simp [qt, hc]
theorem toks_quo' (s : List UInt8) : toks (quo s) = s.map qt := by
  have := toks_quo s []
  simpa [toks] using this
theorem parts_qt (s : List UInt8) (ts : List Tok) : parts (s.map qt ++ ts) = s.map lit ++ parts ts := by
  induction s with
  | nil => rfl
  | cons c s ih =>
    have e : partT (qt c :: (s.map qt ++ ts)) = (lit c, 1) := by
      rw [partT, if_neg (qt_ne c 42 rfl), if_neg (qt_ne c 63 rfl), if_neg (qt_ne c 91 rfl)]; rfl
    rw [List.map_cons, List.cons_append, parts_cons, e]
    show lit c :: parts (s.map qt ++ ts) = _
    rw [ih]; rfl
theorem nxt {a b c : World} (h : Below a.heap.size a b) (k : Below b.heap.size b c) : Below a.heap.size a c := h.trans (k.mono h.size)
theorem M_lit (s t : List UInt8) : M (s.map lit) t = (t == s) := by
  induction s generalizing t with
  | nil => cases t <;> rfl
  | cons c s ih =>
    cases t with
    | nil => rw [List.map_cons, M_one_nil rfl]; rfl
    | cons d t =>
      rw [List.map_cons, M_one rfl, ih]; rfl
theorem M_lit_more (s : List UInt8) (R : List Prt) (t : List UInt8) (h : M R t = true) : M (s.map lit ++ R) (s ++ t) = true := by
  rw [M_append]
  exact ⟨s, t, rfl, by rw [M_lit]; simp, h⟩
theorem parts_quo (s : List UInt8) : parts (toks (quo s)) = s.map lit := by
  rw [toks_quo', ← List.append_nil (s.map qt), parts_qt]; simp [parts_nil]
theorem quo_match (s t : List UInt8) : matchB (quo s) t false = (s == t) := by
  unfold matchB dotNo
  rw [Bool.false_and, Bool.false_and, Bool.false_and, if_neg (by decide), parts_quo, M_lit, Bool.eq_iff_iff, beq_iff_eq, beq_iff_eq]
  exact ⟨fun e => e.symm, fun e => e.symm⟩
theorem quo_has (s : List UInt8) : hasB (quo s) = false := by
  unfold hasB; rw [parts_quo]
  induction s with
  | nil => rfl
  | cons c s ih => rw [List.map_cons, List.any_cons, ih]; rfl
theorem quo_plain (s : List UInt8) : plainB (quo s) = s := by
  unfold plainB; rw [toks_quo', List.map_map]
  induction s with
  | nil => rfl
  | cons c s ih => rw [List.map_cons, ih]; rfl
theorem quo_dot (s : List UInt8) : matchB (quo s) s true = true := by
  have h : dotNo (quo s) s true = false := by
    unfold dotNo
    cases s with
    | nil => rfl
    | cons c s =>
      by_cases hc : c = 46
      · subst hc
        have : beg (quo (46 :: s)) [46] = true := by
          rw [quo, if_neg (by decide)]; rfl
        rw [this]; simp
      · have : beg (c :: s) [46] = false := by
          show ((46 : UInt8) == c && true) = false
          rw [Bool.and_true, beq_eq_false_iff_ne]; exact fun e => hc e.symm
        rw [this]; simp
  unfold matchB
  rw [h, if_neg (by decide), parts_quo, M_lit]; simp
/-- one set. -/
theorem mem_qt (l : List UInt8) (x : UInt8) : mem (l.map qt) x = l.any (· == x) := by
  induction l with
  | nil => rfl
  | cons c l ih =>
    rw [List.map_cons, mem_single _ _ (fun v q e => by
      cases l with
      | nil => cases e
      | cons d l => rw [List.map_cons] at e; injection e with e1; exact qt_ne d 45 rfl e1), ih, inR_self, List.any_cons]; rfl
theorem no_close (l : List UInt8) : (93, false) ∉ l.map qt := fun h => by
  obtain ⟨c, _, hc⟩ := List.mem_map.1 h
  exact qt_ne c 93 rfl hc
theorem partT_set (r : List Tok) (y : (UInt8 → Bool) × Nat) (h : setT r = some y) : partT ((91, false) :: r) = (⟨false, true, y.1⟩, y.2 + 1) := by
  rw [partT, if_neg (by decide), if_neg (by decide), if_pos rfl, h]
theorem setT_plain (c : UInt8) (l : List UInt8) : setT (((c :: l).map qt) ++ [(93, false)]) = some (fun x => mem ((c :: l).map qt) x != false, l.length + 2) := by
  have hh : ¬ (((c :: l).map qt) ++ [(93, false)]).head? = some (33, false) := by
    intro e
    exact qt_ne c 33 rfl (by simpa using e)
  unfold setT
  rw [if_neg hh]
  have := setB_some false (qt c) (l.map qt) [] (no_close l)
  rw [List.length_map] at this
  exact this
theorem setT_not (c : UInt8) (l : List UInt8) : setT ((33, false) :: (((c :: l).map qt) ++ [(93, false)])) = some (fun x => mem ((c :: l).map qt) x != true, l.length + 3) := by
  unfold setT
  rw [List.head?_cons, if_pos rfl]
  have := setB_some true (qt c) (l.map qt) [] (no_close l)
  rw [List.length_map] at this
  show (setB true (((c :: l).map qt) ++ [(93, false)])).map _ = _
  rw [show ((c :: l).map qt) ++ [(93, false)] = qt c :: (l.map qt ++ (93, false) :: []) from rfl, this]
  rfl
theorem parts_set (c : UInt8) (l : List UInt8) : parts (toks (91 :: (quo (c :: l) ++ [93]))) = [⟨false, true, fun x => (c :: l).any (· == x)⟩] := by
  rw [toks_one _ _ (fun e => by cases e), toks_quo, parts_cons, show toks [93] = [(93, false)] from rfl, partT_set _ _ (setT_plain c l)]
  simp only [bne_false']
  rw [List.drop_eq_nil_of_le (by simp), parts_nil]
  congr 2
  funext x
  exact mem_qt (c :: l) x
theorem parts_not (c : UInt8) (l : List UInt8) : parts (toks (91 :: 33 :: (quo (c :: l) ++ [93]))) = [⟨false, true, fun x => !(c :: l).any (· == x)⟩] := by
  rw [toks_one _ _ (fun e => by cases e), toks_one _ _ (fun e => by cases e), toks_quo, parts_cons, show toks [93] = [(93, false)] from rfl, partT_set _ _ (setT_not c l)]
  simp only [bne_true']
  rw [List.drop_eq_nil_of_le (by simp), parts_nil]
  congr 2
  funext x
  unfold notF
  rw [mem_qt (c :: l) x]
theorem match_false (p s : List UInt8) : matchB p s false = M (parts (toks p)) s := by
  unfold matchB dotNo
  rw [Bool.false_and, Bool.false_and, Bool.false_and, if_neg (by decide)]
theorem set_one (c : UInt8) (l : List UInt8) (x : UInt8) : matchB (91 :: (quo (c :: l) ++ [93])) [x] false = (c :: l).any (· == x) := by
  rw [match_false, parts_set, M_one rfl]; simp [M]
theorem set_not (c : UInt8) (l : List UInt8) (x : UInt8) : matchB (91 :: 33 :: (quo (c :: l) ++ [93])) [x] false = !(c :: l).any (· == x) := by
  rw [match_false, parts_not, M_one rfl]; simp [M]
theorem set_two (c : UInt8) (l : List UInt8) (x : UInt8) : matchB (91 :: (quo (c :: l) ++ [93])) [x, x] false = false := by
  rw [match_false, parts_set, M_one rfl]; simp [M]
theorem set_nil (c : UInt8) (l : List UInt8) : matchB (91 :: (quo (c :: l) ++ [93])) [] false = false := by
  rw [match_false, parts_set, M_one_nil rfl]
theorem set_has (c : UInt8) (l : List UInt8) : hasB (91 :: (quo (c :: l) ++ [93])) = true := by
  unfold hasB; rw [parts_set]; rfl
/-- marks. -/
theorem toks_marks (n : Nat) (r : List UInt8) : toks (List.replicate n 63 ++ r) = List.replicate n (63, false) ++ toks r := by
  induction n with
  | zero => rfl
  | succ n ih => rw [List.replicate_succ, List.cons_append, toks_one _ _ (fun e => by cases e), ih]; rfl
theorem parts_marks (n : Nat) (ts : List Tok) : parts (List.replicate n (63, false) ++ ts) = List.replicate n anyP ++ parts ts := by
  induction n with
  | zero => rfl
  | succ n ih =>
    rw [List.replicate_succ, List.cons_append, parts_cons, show partT ((63, false) :: (List.replicate n (63, false) ++ ts)) = (anyP, 1) from rfl]
    show anyP :: parts (List.replicate n (63, false) ++ ts) = _
    rw [ih]; rfl
theorem M_marks (n : Nat) (R : List Prt) : ∀ s : List UInt8, M (List.replicate n anyP ++ R) s = (decide (n ≤ s.length) && M R (s.drop n)) := by
  induction n with
  | zero => intro s; simp
  | succ n ih =>
    intro s
    cases s with
    | nil => rw [List.replicate_succ, List.cons_append, M_one_nil rfl]; simp
    | cons c s =>
      rw [List.replicate_succ, List.cons_append, M_one rfl, ih]
      show (true && _) = _
      rw [Bool.true_and]
      simp
theorem M_star_end (s : List UInt8) : M [star] s = true := by
  rw [M_star rfl, tails_iff]; exact ⟨s, [], by simp, rfl⟩
theorem marks_one (n : Nat) (s : List UInt8) : matchB (List.replicate n 63) s false = decide (s.length = n) := by
  rw [match_false, ← List.append_nil (List.replicate n 63), toks_marks, show toks [] = [] from rfl, parts_marks, parts_nil, M_marks, Bool.eq_iff_iff, Bool.and_eq_true, decide_eq_true_eq, decide_eq_true_eq, M_nil, List.drop_eq_nil_iff]
  omega
theorem marks_star (n : Nat) (s : List UInt8) : matchB (List.replicate n 63 ++ [42]) s false = decide (n ≤ s.length) := by
  rw [match_false, toks_marks, show toks [42] = [(42, false)] from rfl, parts_marks, show parts [(42, false)] = [star] from rfl, M_marks, M_star_end, Bool.and_true]
theorem star_marks (n : Nat) (s : List UInt8) : matchB (42 :: List.replicate n 63) s false = decide (n ≤ s.length) := by
  rw [match_false, toks_one _ _ (fun e => by cases e), ← List.append_nil (List.replicate n 63), toks_marks, show toks [] = [] from rfl, parts_cons]
  rw [show partT ((42, false) :: (List.replicate n (63, false) ++ [])) = (star, 1) from rfl]
  show M (star :: parts (List.replicate n (63, false) ++ [])) s = _
  rw [parts_marks, parts_nil, Bool.eq_iff_iff, M_star rfl, tails_iff, decide_eq_true_eq]
  constructor
  · rintro ⟨a, b, rfl, h⟩
    rw [M_marks, Bool.and_eq_true, decide_eq_true_eq] at h
    rw [List.length_append]; omega
  · intro h
    refine ⟨s.take (s.length - n), s.drop (s.length - n), (List.take_append_drop _ _).symm, ?_⟩
    rw [M_marks, Bool.and_eq_true, decide_eq_true_eq, M_nil, List.drop_eq_nil_iff, List.length_drop]
    omega
/-- a pattern that has nothing stands for its plain text. -/
theorem no_special : ∀ (n : Nat) (ts : List Tok), ts.length ≤ n → (parts ts).any Prt.special = false → parts ts = (ts.map Prod.fst).map lit
  | n, [], _, _ => rfl
  | 0, t :: r, h, _ => by simp at h
  | n + 1, t :: r, h, hs => by
    rw [parts_cons] at hs ⊢
    rw [List.any_cons, Bool.or_eq_false_iff] at hs
    have e : partT (t :: r) = (lit t.1, 1) := by
      have h1 := hs.1
      by_cases h42 : t = (42, false)
      · subst h42; exact Bool.noConfusion (show true = false from h1)
      · by_cases h63 : t = (63, false)
        · subst h63; exact Bool.noConfusion (show true = false from h1)
        · by_cases h91 : t = (91, false)
          · subst h91
            cases hst : setT r with
            | none => rw [partT, if_neg h42, if_neg h63, if_pos rfl, hst]
            | some y => rw [partT_set _ _ hst] at h1; cases h1
          · rw [partT, if_neg h42, if_neg h63, if_neg h91]
    rw [e] at hs ⊢
    have := no_special n r (by simpa using h) hs.2
    show lit t.1 :: parts r = _
    rw [this]; rfl
theorem has_or_plain (p : List UInt8) : hasB p = true ∨ matchB p (plainB p) false = true := by
  cases h : hasB p
  · right
    have := no_special _ (toks p) (Nat.le_refl _) h
    rw [match_false, this, M_lit]
    unfold plainB
    simp
  · exact .inl rfl
theorem shown_any (w : World) : Calls Try.prog 9 #[] w fun e w' => e = .returned (.bool true) ∧ Below w.heap.size w w' := by
  have C1 := Lib.hid (fun w => (show Calls Try.prog 10 #[.string ⟨#[97, 42, 46, 99]⟩, .string ⟨#[97, 98, 46, 99]⟩, .bool true] w fun e w' => e = .returned (.bool true) ∧ Below w.heap.size w w' from match_any _ _ _ (by decide) (by decide) w))
  have C2 := Lib.hid (fun w => (show Calls Try.prog 10 #[.string ⟨#[91, 33, 97, 45, 99, 93, 120]⟩, .string ⟨#[100, 120]⟩, .bool true] w fun e w' => e = .returned (.bool true) ∧ Below w.heap.size w w' from match_any _ _ _ (by decide) (by decide) w))
  have C3 := Lib.hid (fun w => (show Calls Try.prog 10 #[.string ⟨#[91, 93, 93]⟩, .string ⟨#[93]⟩, .bool true] w fun e w' => e = .returned (.bool true) ∧ Below w.heap.size w w' from match_any _ _ _ (by decide) (by decide) w))
  have C4 := Lib.hid (fun w => (show Calls Try.prog 10 #[.string ⟨#[92, 42]⟩, .string ⟨#[42]⟩, .bool true] w fun e w' => e = .returned (.bool true) ∧ Below w.heap.size w w' from match_any _ _ _ (by decide) (by decide) w))
  have C5 := Lib.hid (fun w => (show Calls Try.prog 10 #[.string ⟨#[42]⟩, .string ⟨#[46, 120]⟩, .bool true] w fun e w' => e = .returned (.bool false) ∧ Below w.heap.size w w' from match_any _ _ _ (by decide) (by decide) w))
  have C6 := Lib.hid (fun w => (show Calls Try.prog 10 #[.string ⟨#[91, 97, 98]⟩, .string ⟨#[91, 97, 98]⟩, .bool true] w fun e w' => e = .returned (.bool true) ∧ Below w.heap.size w w' from match_any _ _ _ (by decide) (by decide) w))
  have C7 := Lib.hid (fun w => (show Calls Try.prog 12 #[.string ⟨#[91, 97, 98]⟩] w fun e w' => e = .returned (.bool false) ∧ Below w.heap.size w w' from hasB_any _ (by decide) w))
  have C8 := Lib.hid (fun w => (show Calls Try.prog 16 #[.string ⟨#[97, 42]⟩] w fun e w' => e = .returned (.string ⟨#[97, 92, 42]⟩) ∧ Below w.heap.size w w' from quote_any _ (by decide) w))
  go_enter Try.func9, Try.ntmps9
  go_wp2_with (first
    | (go_at_call 16; (with_reducible refine (C8.out _).mono ?_); rintro e w8 ⟨rfl, b8⟩)
    | (go_at_call 12; (with_reducible refine (C7.out _).mono ?_); rintro e w7 ⟨rfl, b7⟩)
    | (go_at_call 10; (with_reducible refine (C6.out _).mono ?_); rintro e w6 ⟨rfl, b6⟩)
    | (go_at_call 10; (with_reducible refine (C5.out _).mono ?_); rintro e w5 ⟨rfl, b5⟩)
    | (go_at_call 10; (with_reducible refine (C4.out _).mono ?_); rintro e w4 ⟨rfl, b4⟩)
    | (go_at_call 10; (with_reducible refine (C3.out _).mono ?_); rintro e w3 ⟨rfl, b3⟩)
    | (go_at_call 10; (with_reducible refine (C2.out _).mono ?_); rintro e w2 ⟨rfl, b2⟩)
    | (go_at_call 10; (with_reducible refine (C1.out _).mono ?_); rintro e w1 ⟨rfl, b1⟩))
  go_ret
  exact ⟨rfl, nxt b1 (nxt b2 (nxt b3 (nxt b4 (nxt b5 (nxt b6 (nxt b7 b8))))))⟩
end Go.Proofs.Ytacohhmhggljhaa
