/- What package glob answers, as plain functions on lists of bytes: tokens, parts, what a pattern stands for. No program in sight. -/
namespace Go.Proofs.Ytacohhmhggljhaa

/-- a byte of a pattern, quoted or not. -/
abbrev Tok := UInt8 × Bool
def toks : List UInt8 → List Tok
  | [] => []
  | [c] => [(c, false)]
  | c :: d :: r => if c = 92 then (d, true) :: toks r else (c, false) :: toks (d :: r)
def tl (t : Tok) : Nat := if t.2 = true then 2 else 1
def lenT : List Tok → Nat
  | [] => 0
  | t :: r => tl t + lenT r
theorem lenT_append (a b : List Tok) : lenT (a ++ b) = lenT a + lenT b := by
  induction a with
  | nil => simp [lenT]
  | cons t a ih => simp [lenT, ih]; omega
theorem tl_pos (t : Tok) : 1 ≤ tl t ∧ tl t ≤ 2 := by unfold tl; split <;> omega
theorem toks_one (c : UInt8) (r : List UInt8) (h : c = 92 → r = []) : toks (c :: r) = (c, false) :: toks r := by
  cases r with
  | nil => rfl
  | cons d r =>
    have : c ≠ 92 := fun e => by cases h e
    rw [toks, if_neg this]
theorem toks_two (d : UInt8) (r : List UInt8) : toks (92 :: d :: r) = (d, true) :: toks r := by rw [toks, if_pos rfl]
theorem toks_cases (l : List UInt8) : l = [] ∨ (∃ d r, l = 92 :: d :: r ∧ toks l = (d, true) :: toks r) ∨ (∃ c r, l = c :: r ∧ (c = 92 → r = []) ∧ toks l = (c, false) :: toks r) := by
  cases l with
  | nil => exact .inl rfl
  | cons c r =>
    by_cases h : c = 92
    · subst h
      cases r with
      | nil => exact .inr (.inr ⟨92, [], rfl, fun _ => rfl, rfl⟩)
      | cons d r => exact .inr (.inl ⟨d, r, rfl, toks_two d r⟩)
    · exact .inr (.inr ⟨c, r, rfl, fun e => absurd e h, toks_one c r fun e => absurd e h⟩)
theorem toks_nil {l : List UInt8} (h : toks l = []) : l = [] := by
  rcases toks_cases l with e | ⟨d, r, rfl, e⟩ | ⟨c, r, rfl, _, e⟩
  · exact e
  · rw [e] at h; cases h
  · rw [e] at h; cases h
theorem toks_split : ∀ (a b : List Tok) (l : List UInt8), toks l = a ++ b → lenT a ≤ l.length ∧ toks (l.take (lenT a)) = a ∧ toks (l.drop (lenT a)) = b
  | [], b, l, h => by simp [lenT, toks]; simpa using h
  | t :: a, b, l, h => by
    rcases toks_cases l with e | ⟨d, r, rfl, e⟩ | ⟨c, r, rfl, hc, e⟩
    · rw [e] at h; cases h
    · rw [e] at h
      injection h with h1 h2
      obtain ⟨g1, g2, g3⟩ := toks_split a b r h2
      rw [← h1]
      have e1 : lenT ((d, true) :: a) = lenT a + 2 := by simp [lenT, tl]; omega
      rw [e1]
      refine ⟨by simp; omega, ?_, ?_⟩
      · rw [List.take_succ_cons, List.take_succ_cons, toks_two, g2]
      · rw [List.drop_succ_cons, List.drop_succ_cons, g3]
    · rw [e] at h
      injection h with h1 h2
      obtain ⟨g1, g2, g3⟩ := toks_split a b r h2
      rw [← h1]
      have e1 : lenT ((c, false) :: a) = lenT a + 1 := by simp [lenT, tl]; omega
      rw [e1]
      refine ⟨by simp; omega, ?_, ?_⟩
      · rw [List.take_succ_cons, toks_one _ _ (fun e => by rw [hc e]; simp), g2]
      · rw [List.drop_succ_cons, g3]
theorem lenT_toks (l : List UInt8) : lenT (toks l) = l.length := by
  have h := toks_split (toks l) [] l (by simp)
  have h3 := toks_nil h.2.2
  have := h.1
  have := congrArg List.length h3
  simp at this
  omega
/-- the last place of a bracket that is not quoted. -/
def lcF : Nat → Int → List Tok → Int
  | _, k, [] => k
  | n, k, t :: r => lcF (n + tl t) (if t = (93, false) then (n : Int) else k) r
theorem lcF_append (a b : List Tok) : ∀ (n : Nat) (k : Int), lcF n k (a ++ b) = lcF (n + lenT a) (lcF n k a) b := by
  induction a with
  | nil => intro n k; simp [lcF, lenT]
  | cons t a ih => intro n k; simp only [List.cons_append, lcF, lenT]; rw [ih, Nat.add_assoc]
theorem lcF_none (a : List Tok) : ∀ (n : Nat) (k : Int), (93, false) ∉ a → lcF n k a = k := by
  induction a with
  | nil => intro n k _; rfl
  | cons t a ih =>
    intro n k h
    simp only [List.mem_cons, not_or] at h
    rw [lcF, ih _ _ h.2, if_neg (fun e => h.1 e.symm)]
theorem lcF_some (a : List Tok) : ∀ (n : Nat) (k : Int), (93, false) ∈ a → (n : Int) ≤ lcF n k a := by
  induction a with
  | nil => intro n k h; cases h
  | cons t a ih =>
    intro n k h
    rw [lcF]
    by_cases ha : (93, false) ∈ a
    · have := ih (n + tl t) (if t = (93, false) then (n : Int) else k) ha
      omega
    · rw [lcF_none _ _ _ ha]
      rcases List.mem_cons.1 h with e | e
      · rw [if_pos e.symm]; omega
      · exact absurd e ha
theorem lcF_lt (a : List Tok) : ∀ (n : Nat) (k : Int), k < n → lcF n k a < n + lenT a := by
  induction a with
  | nil => intro n k h; simp [lcF, lenT]; omega
  | cons t a ih =>
    intro n k h
    rw [lcF, lenT]
    have h1 := (tl_pos t).1
    have := ih (n + tl t) (if t = (93, false) then (n : Int) else k) (by split <;> omega)
    simp only [Int.natCast_add] at this ⊢
    omega
theorem lcF_ge (a : List Tok) : ∀ (n : Nat) (k : Int), -1 ≤ k → -1 ≤ lcF n k a := by
  induction a with
  | nil => intro n k h; exact h
  | cons t a ih =>
    intro n k h
    rw [lcF]
    exact ih _ _ (by split <;> omega)
def lastI (ts : List Tok) : Int := lcF 0 (-1) ts
theorem last_lt {ts pre : List Tok} {t : Tok} {r : List Tok} (h : ts = pre ++ t :: r) : ((lenT pre : Int) < lastI ts) ↔ (93, false) ∈ r := by
  unfold lastI
  rw [h, lcF_append, lcF]
  have h0 := lcF_lt pre 0 (-1) (by omega)
  have h1 := (tl_pos t).1
  constructor
  · intro h2
    refine Decidable.byContradiction fun hr => ?_
    rw [lcF_none _ _ _ hr] at h2
    split at h2 <;> omega
  · intro hr
    have := lcF_some r (0 + lenT pre + tl t) (if t = (93, false) then ((0 + lenT pre : Nat) : Int) else lcF 0 (-1) pre) hr
    omega
theorem last_end (ts : List Tok) : ¬ ((lenT ts : Int) < lastI ts) := by
  have := lcF_lt ts 0 (-1) (by omega)
  unfold lastI
  omega

/-- a part of a pattern. -/
structure Prt where
  many : Bool
  special : Bool
  set : UInt8 → Bool
/-- how many tokens stand ahead of the bracket that ends a set. -/
def cl : List Tok → Option Nat
  | [] => none
  | t :: r => if t = (93, false) then some 0 else (cl r).map (· + 1)
def mem : List Tok → UInt8 → Bool
  | [], _ => false
  | [t], x => t.1 == x
  | [t, u], x => t.1 == x || u.1 == x
  | t :: u :: v :: r, x => if u = (45, false) then (decide (t.1.toNat ≤ x.toNat) && decide (x.toNat ≤ v.1.toNat)) || mem r x else t.1 == x || mem (u :: v :: r) x
def setB (neg : Bool) : List Tok → Option ((UInt8 → Bool) × Nat)
  | [] => none
  | t :: r => (cl r).map fun e => (fun x => mem (t :: r.take e) x != neg, e + 2)
def setT (r : List Tok) : Option ((UInt8 → Bool) × Nat) :=
  if r.head? = some (33, false) then (setB true r.tail).map fun y => (y.1, y.2 + 1) else setB false r
def lit (c : UInt8) : Prt := ⟨false, false, fun x => x == c⟩
def star : Prt := ⟨true, true, fun _ => false⟩
def anyP : Prt := ⟨false, true, fun _ => true⟩
def partT : List Tok → Prt × Nat
  | [] => (lit 0, 1)
  | t :: r =>
    if t = (42, false) then (star, 1)
    else if t = (63, false) then (anyP, 1)
    else if t = (91, false) then
      match setT r with
      | some y => (⟨false, true, y.1⟩, y.2 + 1)
      | none => (lit t.1, 1)
    else (lit t.1, 1)
def prts : Nat → List Tok → List Prt
  | 0, _ => []
  | _ + 1, [] => []
  | n + 1, t :: r => (partT (t :: r)).1 :: prts n ((t :: r).drop (partT (t :: r)).2)
def parts (ts : List Tok) : List Prt := prts ts.length ts
theorem partT_pos (ts : List Tok) : 1 ≤ (partT ts).2 := by
  cases ts with
  | nil => exact Nat.le_refl _
  | cons t r =>
    show 1 ≤ (if t = (42, false) then (star, 1) else if t = (63, false) then (anyP, 1) else if t = (91, false) then (match setT r with
      | some y => (⟨false, true, y.1⟩, y.2 + 1)
      | none => (lit t.1, 1)) else (lit t.1, 1) : Prt × Nat).2
    by_cases h1 : t = (42, false)
    · rw [if_pos h1]; exact Nat.le_refl _
    · rw [if_neg h1]
      by_cases h2 : t = (63, false)
      · rw [if_pos h2]; exact Nat.le_refl _
      · rw [if_neg h2]
        by_cases h3 : t = (91, false)
        · rw [if_pos h3]
          cases setT r with
          | none => exact Nat.le_refl _
          | some y => simp
        · rw [if_neg h3]; exact Nat.le_refl _
theorem prts_fuel : ∀ (n m : Nat) (ts : List Tok), ts.length ≤ n → ts.length ≤ m → prts n ts = prts m ts
  | 0, m, ts, h, _ => by
    have : ts = [] := List.length_eq_zero_iff.1 (by omega)
    subst this
    cases m <;> rfl
  | n + 1, 0, ts, _, h => by
    have : ts = [] := List.length_eq_zero_iff.1 (by omega)
    subst this
    rfl
  | n + 1, m + 1, [], _, _ => rfl
  | n + 1, m + 1, t :: r, h, k => by
    have := partT_pos (t :: r)
    rw [prts, prts, prts_fuel n m _ (by simp at h ⊢; omega) (by simp at k ⊢; omega)]
theorem parts_nil : parts [] = [] := rfl
theorem parts_cons (t : Tok) (r : List Tok) : parts (t :: r) = (partT (t :: r)).1 :: parts ((t :: r).drop (partT (t :: r)).2) := by
  unfold parts
  rw [List.length_cons, prts]
  have := partT_pos (t :: r)
  rw [prts_fuel r.length ((t :: r).drop (partT (t :: r)).2).length _ (by simp; omega) (Nat.le_refl _)]
theorem parts_len (ts : List Tok) : (parts ts).length ≤ ts.length := by
  unfold parts
  have : ∀ n (ts : List Tok), (prts n ts).length ≤ n := by
    intro n
    induction n with
    | zero => intro ts; simp [prts]
    | succ n ih =>
      intro ts
      cases ts with
      | nil => simp [prts]
      | cons t r => rw [prts, List.length_cons]; have := ih ((t :: r).drop (partT (t :: r)).2); omega
  exact this _ _
/-- some end of the text. -/
def tailsAny (g : List UInt8 → Bool) : List UInt8 → Bool
  | [] => g []
  | c :: r => g (c :: r) || tailsAny g r
/-- these parts stand for that text. -/
def M : List Prt → List UInt8 → Bool
  | [], s => s.isEmpty
  | x :: L, s => if x.many = true then tailsAny (M L) s else match s with
    | [] => false
    | c :: r => x.set c && M L r
def beg (s t : List UInt8) : Bool := t.isPrefixOf s
def dotNo (p s : List UInt8) (dot : Bool) : Bool := dot && beg s [46] && !beg p [46] && !beg p [92, 46]
def matchB (p s : List UInt8) (dot : Bool) : Bool := if dotNo p s dot = true then false else M (parts (toks p)) s
def hasB (p : List UInt8) : Bool := (parts (toks p)).any Prt.special
def plainB (p : List UInt8) : List UInt8 := (toks p).map Prod.fst
def spc (c : UInt8) : Bool := c == 42 || (c == 63 || (c == 91 || (c == 93 || (c == 33 || (c == 45 || c == 92)))))
def quo : List UInt8 → List UInt8
  | [] => []
  | c :: r => if spc c = true then 92 :: c :: quo r else c :: quo r

theorem tails_iff (g : List UInt8 → Bool) (s : List UInt8) : tailsAny g s = true ↔ ∃ a b, s = a ++ b ∧ g b = true := by
  induction s with
  | nil =>
    constructor
    · intro h; exact ⟨[], [], rfl, h⟩
    · rintro ⟨a, b, h, hg⟩
      have := List.append_eq_nil_iff.1 h.symm
      rw [this.2] at hg
      exact hg
  | cons c r ih =>
    rw [tailsAny, Bool.or_eq_true, ih]
    constructor
    · rintro (h | ⟨a, b, rfl, h⟩)
      · exact ⟨[], c :: r, rfl, h⟩
      · exact ⟨c :: a, b, rfl, h⟩
    · rintro ⟨a, b, h, hg⟩
      cases a with
      | nil => exact .inl (by rw [show c :: r = b from h]; exact hg)
      | cons d a => injection h with h1 h2; exact .inr ⟨a, b, h2, hg⟩
theorem M_nil (s : List UInt8) : M [] s = true ↔ s = [] := by simp [M]
theorem M_star {x : Prt} (hx : x.many = true) (L : List Prt) (s : List UInt8) : M (x :: L) s = tailsAny (M L) s := by cases s <;> simp [M, hx]
theorem M_one_nil {x : Prt} (hx : x.many = false) (L : List Prt) : M (x :: L) [] = false := by rw [M, hx]; rfl
theorem M_one {x : Prt} (hx : x.many = false) (L : List Prt) (c : UInt8) (s : List UInt8) : M (x :: L) (c :: s) = (x.set c && M L s) := by rw [M, hx]; rfl
theorem M_append (L R : List Prt) : ∀ s, M (L ++ R) s = true ↔ ∃ a b, s = a ++ b ∧ M L a = true ∧ M R b = true := by
  induction L with
  | nil =>
    intro s
    constructor
    · intro h; exact ⟨[], s, rfl, rfl, h⟩
    · rintro ⟨a, b, rfl, h1, h2⟩
      rw [(M_nil a).1 h1]; exact h2
  | cons x L ih =>
    intro s
    cases hx : x.many
    · cases s with
      | nil =>
        rw [List.cons_append, M_one_nil hx]
        constructor
        · intro h; cases h
        · rintro ⟨a, b, h, h1, h2⟩
          have := List.append_eq_nil_iff.1 h.symm
          rw [this.1, M_one_nil hx] at h1; cases h1
      | cons c s =>
        rw [List.cons_append, M_one hx, Bool.and_eq_true, ih]
        constructor
        · rintro ⟨hc, a, b, rfl, h1, h2⟩
          exact ⟨c :: a, b, rfl, by rw [M_one hx, hc, h1]; rfl, h2⟩
        · rintro ⟨a, b, h, h1, h2⟩
          cases a with
          | nil => rw [M_one_nil hx] at h1; cases h1
          | cons d a =>
            injection h with e1 e2
            subst e1
            rw [M_one hx, Bool.and_eq_true] at h1
            exact ⟨h1.1, a, b, e2, h1.2, h2⟩
    · rw [List.cons_append, M_star hx, tails_iff]
      constructor
      · rintro ⟨a, b, rfl, h⟩
        obtain ⟨b1, b2, rfl, h1, h2⟩ := (ih b).1 h
        exact ⟨a ++ b1, b2, by simp, by rw [M_star hx, tails_iff]; exact ⟨a, b1, rfl, h1⟩, h2⟩
      · rintro ⟨a, b, rfl, h1, h2⟩
        rw [M_star hx, tails_iff] at h1
        obtain ⟨a1, a2, rfl, h3⟩ := h1
        exact ⟨a1, a2 ++ b, by simp, (ih _).2 ⟨a2, b, rfl, h3, h2⟩⟩
theorem M_congr (A : List Prt) {P Q : List Prt} (h : ∀ s, M P s = M Q s) (s : List UInt8) : M (A ++ P) s = M (A ++ Q) s := by
  rw [Bool.eq_iff_iff, M_append, M_append]
  constructor
  · rintro ⟨a, b, e, h1, h2⟩; exact ⟨a, b, e, h1, by rw [← h]; exact h2⟩
  · rintro ⟨a, b, e, h1, h2⟩; exact ⟨a, b, e, h1, by rw [h]; exact h2⟩
/-- a row of sets fits at the beginning of a text. -/
def fitsP : List (UInt8 → Bool) → List UInt8 → Bool
  | [], _ => true
  | _ :: _, [] => false
  | f :: r, c :: s => f c && fitsP r s
def one (f : UInt8 → Bool) : Prt := ⟨false, false, f⟩
theorem fits_len {run : List (UInt8 → Bool)} : ∀ {s : List UInt8}, fitsP run s = true → run.length ≤ s.length := by
  induction run with
  | nil => intro s _; simp
  | cons f r ih =>
    intro s h
    cases s with
    | nil => cases h
    | cons c s =>
      rw [fitsP, Bool.and_eq_true] at h
      have := ih h.2
      simp; omega
theorem fits_M (run : List (UInt8 → Bool)) (R : List Prt) : ∀ s, M (run.map one ++ R) s = (fitsP run s && M R (s.drop run.length)) := by
  induction run with
  | nil => intro s; simp [fitsP]
  | cons f r ih =>
    intro s
    cases s with
    | nil => rw [List.map_cons, List.cons_append, M_one_nil rfl]; simp [fitsP]
    | cons c s =>
      rw [List.map_cons, List.cons_append, M_one rfl, ih, fitsP, Bool.and_assoc]
      rfl
def place (run : List (UInt8 → Bool)) : List UInt8 → Option Nat
  | [] => if fitsP run [] = true then some 0 else none
  | c :: r => if fitsP run (c :: r) = true then some 0 else (place run r).map (· + 1)
def placeI (run : List (UInt8 → Bool)) (s : List UInt8) : Int := match place run s with
  | none => -1
  | some k => k
theorem place_none {run : List (UInt8 → Bool)} : ∀ {s : List UInt8}, (∀ j, j ≤ s.length → fitsP run (s.drop j) = false) → place run s = none
  | [], h => by have := h 0 (Nat.le_refl _); rw [place, if_neg (by simpa using this)]
  | c :: r, h => by
    have h0 := h 0 (by simp)
    rw [place, if_neg (by simpa using h0), place_none fun j hj => by simpa using h (j + 1) (by simpa using hj)]
    rfl
theorem place_some {run : List (UInt8 → Bool)} : ∀ {k : Nat} {s : List UInt8}, k ≤ s.length → fitsP run (s.drop k) = true → (∀ j, j < k → fitsP run (s.drop j) = false) → place run s = some k
  | 0, [], _, h, _ => by rw [place, if_pos (by simpa using h)]
  | 0, c :: r, _, h, _ => by rw [place, if_pos (by simpa using h)]
  | k + 1, [], hk, _, _ => by simp at hk
  | k + 1, c :: r, hk, h, hn => by
    have h0 := hn 0 (by omega)
    rw [place, if_neg (by simpa using h0), place_some (k := k) (by simpa using hk) (by simpa using h) fun j hj => by simpa using hn (j + 1) (by omega)]
    rfl
theorem place_inv {run : List (UInt8 → Bool)} : ∀ {s : List UInt8}, match place run s with
    | none => ∀ j, fitsP run (s.drop j) = false
    | some k => k + run.length ≤ s.length ∧ fitsP run (s.drop k) = true ∧ ∀ j, j < k → fitsP run (s.drop j) = false
  | [] => by
    rw [place]
    by_cases h : fitsP run [] = true
    · rw [if_pos h]; exact ⟨by have := fits_len h; simpa using this, h, fun j hj => by omega⟩
    · rw [if_neg h]; intro j; simpa using h
  | c :: r => by
    rw [place]
    by_cases h : fitsP run (c :: r) = true
    · rw [if_pos h]; exact ⟨by have := fits_len h; simp at this ⊢; omega, h, fun j hj => by omega⟩
    · rw [if_neg h]
      have ih := place_inv (run := run) (s := r)
      cases hp : place run r with
      | none =>
        rw [hp] at ih
        intro j
        cases j with
        | zero => simpa using h
        | succ j => simpa using ih j
      | some k =>
        rw [hp] at ih
        obtain ⟨h1, h2, h3⟩ := ih
        refine ⟨by simp; omega, by simpa using h2, fun j hj => ?_⟩
        cases j with
        | zero => simpa using h
        | succ j => simpa using h3 j (by simpa using hj)
theorem star_later {x : Prt} (hx : x.many = true) (L : List Prt) (a s : List UInt8) (h : M (x :: L) s = true) : M (x :: L) (a ++ s) = true := by
  rw [M_star hx, tails_iff] at h ⊢
  obtain ⟨b, c, rfl, h⟩ := h
  exact ⟨a ++ b, c, by simp, h⟩
/-- behind a star the first place for the run leaves the most. -/
theorem greedy {x y : Prt} (hx : x.many = true) (hy : y.many = true) (run : List (UInt8 → Bool)) (R : List Prt) (s : List UInt8) :
    M (x :: (run.map one ++ y :: R)) s = match place run s with | none => false | some k => M (y :: R) (s.drop (k + run.length)) := by
  have hi := place_inv (run := run) (s := s)
  rw [Bool.eq_iff_iff, M_star hx, tails_iff]
  cases hp : place run s with
  | none =>
    rw [hp] at hi
    constructor
    · rintro ⟨a, b, rfl, h⟩
      rw [fits_M, Bool.and_eq_true] at h
      have := hi a.length
      rw [List.drop_left] at this
      rw [this] at h
      cases h.1
    · intro h; cases h
  | some k =>
    rw [hp] at hi
    obtain ⟨h1, h2, h3⟩ := hi
    constructor
    · rintro ⟨a, b, rfl, h⟩
      rw [fits_M, Bool.and_eq_true] at h
      have ha : k ≤ a.length := by
        refine Nat.le_of_not_lt fun hl => ?_
        have := h3 a.length hl
        rw [List.drop_left] at this
        rw [this] at h
        cases h.1
      show M (y :: R) ((a ++ b).drop (k + run.length)) = true
      have hb := fits_len h.1
      have e1 : b.drop run.length = ((a ++ b).drop (k + run.length)).drop (a.length - k) := by
        rw [List.drop_drop, show k + run.length + (a.length - k) = a.length + run.length by omega, ← List.drop_drop, List.drop_left]
      have e : (a ++ b).drop (k + run.length) = ((a ++ b).drop (k + run.length)).take (a.length - k) ++ b.drop run.length := by
        rw [e1, List.take_append_drop]
      rw [e]
      exact star_later hy R _ _ h.2
    · intro h
      refine ⟨s.take k, s.drop k, (List.take_append_drop _ _).symm, ?_⟩
      rw [fits_M, h2, Bool.true_and, List.drop_drop]
      exact h
theorem loose_end {x : Prt} (hx : x.many = true) (run : List (UInt8 → Bool)) (s : List UInt8) :
    M (x :: run.map one) s = (decide (run.length ≤ s.length) && fitsP run (s.drop (s.length - run.length))) := by
  have e := fits_M run []
  simp only [List.append_nil] at e
  rw [Bool.eq_iff_iff, M_star hx, tails_iff, Bool.and_eq_true, decide_eq_true_eq]
  constructor
  · rintro ⟨a, b, rfl, h⟩
    rw [e, Bool.and_eq_true, M_nil] at h
    have h1 := fits_len h.1
    have h2 : b.length ≤ run.length := by have := congrArg List.length h.2; simp at this; omega
    have h3 : (a ++ b).length - run.length = a.length := by simp; omega
    rw [h3, List.drop_left]
    exact ⟨by simp; omega, h.1⟩
  · rintro ⟨h1, h2⟩
    refine ⟨s.take (s.length - run.length), s.drop (s.length - run.length), (List.take_append_drop _ _).symm, ?_⟩
    rw [e, h2, Bool.true_and, M_nil]
    apply List.drop_eq_nil_of_le
    rw [List.length_drop]; omega
theorem fits_snoc (f : UInt8 → Bool) : ∀ (run : List (UInt8 → Bool)) (s : List UInt8), fitsP (run ++ [f]) s = (fitsP run s && match s[run.length]? with | none => false | some c => f c)
  | [], [] => rfl
  | [], c :: s => by simp [fitsP]
  | g :: r, [] => by simp [fitsP]
  | g :: r, c :: s => by
    rw [List.cons_append, fitsP, fitsP, fits_snoc f r s, Bool.and_assoc]
    simp
theorem map_one_snoc (run : List (UInt8 → Bool)) (x : Prt) (R : List Prt) (hx : x.many = false) (A : List Prt) (s : List UInt8) :
    M (A ++ (run.map one ++ x :: R)) s = M (A ++ ((run ++ [x.set]).map one ++ R)) s := by
  refine M_congr A (fun t => ?_) s
  rw [List.map_append, List.append_assoc]
  refine M_congr _ (fun u => ?_) t
  cases u with
  | nil => rw [M_one_nil hx]; rfl
  | cons c u => rw [M_one hx]; rfl
end Go.Proofs.Ytacohhmhggljhaa
