/- Plain facts: parts of words, words and tokens of a script, as functions on lists of bytes. -/
import Derived.Test.YtoahgblgchmclaaProg
import Derived.Lib.Hide
namespace Go.Proofs.Ytoahgblgchmclaa
set_option linter.unusedVariables false
set_option linter.unusedSimpArgs false
abbrev Bs := List UInt8
/-- where a part ends; or it does not end; or where it is too deep. -/
inductive R where
  | ok (j : Nat)
  | more
  | deep (k : Nat)
/-- what a part begins with. -/
inductive Kd where
  | esc | sq | dq | ar | su | pa | gr
  deriving DecidableEq
def kb : Option Kd → Bs
  | some .esc => [92]
  | some .sq => [39]
  | some .dq => [34]
  | some .ar => [36, 40, 40]
  | some .su => [36, 40]
  | some .pa => [36, 123]
  | some .gr => [96]
  | none => []
/-- the part that begins a text. -/
def kd (q : Bool) : Bs → Option Kd
  | [] => none
  | c :: r =>
    if c = 92 then some .esc
    else if c = 39 ∧ q = false then some .sq
    else if c = 34 ∧ q = false then some .dq
    else if c = 36 ∧ r.head? = some 40 ∧ r.tail.head? = some 40 then some .ar
    else if c = 36 ∧ r.head? = some 40 then some .su
    else if c = 36 ∧ r.head? = some 123 then some .pa
    else if c = 96 then some .gr
    else none
/-- how many bytes up to one that is an end. -/
def toQ (e : UInt8) : Bs → Option Nat
  | [] => none
  | c :: r => if c = e then some 1 else (toQ e r).map (· + 1)
def grv : Bs → Option Nat
  | [] => none
  | [c] => if c = 96 then some 1 else none
  | c :: d :: r => if c = 96 then some 1 else if c = 92 then (grv r).map (· + 2) else (grv (d :: r)).map (· + 1)
def ari : Nat → Bs → Option Nat
  | _, [] => none
  | o, c :: r =>
    if c = 40 then (ari (o + 1) r).map (· + 1)
    else if c = 41 ∧ 0 < o then (ari (o - 1) r).map (· + 1)
    else if c = 41 ∧ r.head? = some 41 then some 2
    else (ari o r).map (· + 1)
def lift (i : Nat) : Option Nat → R
  | some n => .ok (i + n)
  | none => .more
/-- up to a byte that is an end, not within a part, nor within parentheses where the end is one. -/
def nestL (P : Bool → Kd → Nat → R) (e : UInt8) (q : Bool) (l : Bs) : Nat → Nat → Nat → R
  | 0, _, _ => .more
  | n + 1, i, o =>
    if l.length ≤ i then .more else
    match kd q (l.drop i) with
    | some k => match P q k i with
      | .ok j => nestL P e q l n j o
      | r => r
    | none =>
      if l.getD i 0 = e ∧ o = 0 then .ok (i + 1)
      else if e = 41 ∧ l.getD i 0 = 40 then nestL P e q l n (i + 1) (o + 1)
      else if e = 41 ∧ l.getD i 0 = 41 then nestL P e q l n (i + 1) (o - 1)
      else nestL P e q l n (i + 1) o
/-- the part of a kind at a place; how many more may stand around it. -/
def partL (l : Bs) : Nat → Bool → Kd → Nat → R
  | 0, _, _, i => .deep i
  | d + 1, q, k, i => match k with
    | .esc => if i + 1 < l.length then .ok (i + 2) else .more
    | .sq => lift (i + 1) (toQ 39 (l.drop (i + 1)))
    | .dq => nestL (partL l d) 34 true l l.length (i + 1) 0
    | .ar => lift (i + 3) (ari 0 (l.drop (i + 3)))
    | .su => nestL (partL l d) 41 false l l.length (i + 2) 0
    | .pa => nestL (partL l d) 125 q l l.length (i + 2) 0
    | .gr => lift (i + 1) (grv (l.drop (i + 1)))
def stopB (c : UInt8) : Bool := c = 32 || c = 9 || c = 10 || c = 124 || c = 38 || c = 59 || c = 60 || c = 62 || c = 40 || c = 41
def wordL (l : Bs) : Nat → Nat → R
  | 0, i => .ok i
  | n + 1, i =>
    if l.length ≤ i then .ok i
    else if stopB (l.getD i 0) then .ok i
    else match kd false (l.drop i) with
    | none => wordL l n (i + 1)
    | some k => match partL l 25 false k i with
      | .ok j => wordL l n j
      | r => r
/-- the length of the sign that begins a text. -/
def sg : Bs → Nat
  | [] => 0
  | c :: r =>
    if (c = 38 ∧ r.head? = some 38) ∨ (c = 124 ∧ r.head? = some 124) ∨ (c = 59 ∧ r.head? = some 59) ∨ (c = 62 ∧ r.head? = some 62) ∨ (c = 60 ∧ r.head? = some 38) ∨ (c = 62 ∧ r.head? = some 38) ∨ (c = 60 ∧ r.head? = some 62) ∨ (c = 62 ∧ r.head? = some 124) then 2
    else if c = 10 ∨ c = 124 ∨ c = 38 ∨ c = 59 ∨ c = 60 ∨ c = 62 ∨ c = 40 ∨ c = 41 then 1
    else 0
/-- a token: its kind, its bytes, its place. -/
structure Tk where
  kind : Int
  text : Bs
  at_ : Nat
def mid (l : Bs) (i j : Nat) : Bs := (l.drop i).take (j - i)
def isDig (c : UInt8) : Bool := decide (48 ≤ c.toNat) && decide (c.toNat ≤ 57)
/-- the kind of a word from i to j. -/
def wkind (l : Bs) (i j : Nat) : Int :=
  if j = i + 1 ∧ isDig (l.getD i 0) = true ∧ ((l.drop j).head? = some 60 ∨ (l.drop j).head? = some 62) then 3 else 1
inductive Ans where
  | ok (ts : List Tk)
  | err (k : Nat) (e : Int)
/-- the place of the next line feed, or the end. -/
def cmt (l : Bs) (i : Nat) : Nat := i + ((l.drop i).takeWhile (fun c => c != 10)).length
def allL (l : Bs) : Nat → Nat → List Tk → Ans
  | 0, _, out => .ok (out ++ [⟨4, [], l.length⟩])
  | n + 1, i, out =>
    if l.length ≤ i then .ok (out ++ [⟨4, [], l.length⟩])
    else if l.getD i 0 = 32 ∨ l.getD i 0 = 9 then allL l n (i + 1) out
    else if l.getD i 0 = 92 ∧ (l.drop (i + 1)).head? = some 10 then allL l n (i + 2) out
    else if l.getD i 0 = 35 then allL l n (cmt l i) out
    else if out.length = 400 then .err i 12
    else if 0 < sg (l.drop i) then allL l n (i + sg (l.drop i)) (out ++ [⟨2, mid l i (i + sg (l.drop i)), i⟩])
    else match wordL l l.length i with
      | .ok j => allL l n j (out ++ [⟨wkind l i j, mid l i j, i⟩])
      | .more => .err l.length 23
      | .deep k => .err k 17
/-- the whole answer. -/
def allA (l : Bs) : Ans := if 4096 < l.length then .err 0 10 else allL l l.length 0 []
def partA (l : Bs) (q : Bool) : Int := match kd q l with
  | none => 0
  | some k => match partL l 25 q k 0 with
    | .ok j => j
    | _ => -1

theorem toQ_le (e : UInt8) : ∀ (l : Bs) (n : Nat), toQ e l = some n → 0 < n ∧ n ≤ l.length := by
  intro l
  induction l with
  | nil => intro n h; cases h
  | cons c r ih =>
    intro n h
    rw [toQ] at h
    split at h
    · cases h; simp
    · cases hq : toQ e r with
      | none => rw [hq] at h; cases h
      | some m =>
        rw [hq] at h; cases h
        have := ih m hq
        simp; omega
theorem grv_le : ∀ (n : Nat) (l : Bs), l.length ≤ n → ∀ m, grv l = some m → 0 < m ∧ m ≤ l.length := by
  intro n
  induction n with
  | zero => intro l hl m h; obtain rfl := List.length_eq_zero_iff.1 (Nat.le_zero.1 hl); cases h
  | succ n ih =>
    intro l hl m h
    match l, hl, h with
    | [c], hl, h =>
      rw [grv] at h
      split at h
      · cases h; simp
      · cases h
    | c :: d :: r, hl, h =>
      rw [grv] at h
      simp only [List.length_cons] at hl
      split at h
      · cases h; simp
      · split at h
        · cases hq : grv r with
          | none => rw [hq] at h; cases h
          | some k =>
            rw [hq] at h; cases h
            have := ih r (by omega) k hq
            simp only [List.length_cons]; omega
        · cases hq : grv (d :: r) with
          | none => rw [hq] at h; cases h
          | some k =>
            rw [hq] at h; cases h
            have := ih (d :: r) (by simp only [List.length_cons]; omega) k hq
            simp only [List.length_cons] at this ⊢; omega
theorem ari_le : ∀ (l : Bs) (o n : Nat), ari o l = some n → 0 < n ∧ n ≤ l.length := by
  intro l
  induction l with
  | nil => intro o n h; rw [ari] at h; cases h
  | cons c r ih =>
    intro o n h
    rw [ari] at h
    split at h
    · cases hq : ari (o + 1) r with
      | none => rw [hq] at h; cases h
      | some m => rw [hq] at h; cases h; have := ih _ m hq; simp only [List.length_cons]; omega
    · split at h
      · cases hq : ari (o - 1) r with
        | none => rw [hq] at h; cases h
        | some m => rw [hq] at h; cases h; have := ih _ m hq; simp only [List.length_cons]; omega
      · split at h
        · rename_i h3
          cases h
          cases r with
          | nil => simp at h3
          | cons d r => simp only [List.length_cons]; omega
        · cases hq : ari o r with
          | none => rw [hq] at h; cases h
          | some m => rw [hq] at h; cases h; have := ih _ m hq; simp only [List.length_cons]; omega
theorem lift_le {l : Bs} {i j : Nat} {x : Option Nat} (h : lift i x = .ok j) (hx : ∀ n, x = some n → 0 < n ∧ n ≤ (l.drop i).length) : i < j ∧ j ≤ l.length := by
  cases x with
  | none => cases h
  | some n =>
    have hj : i + n = j := by rw [lift] at h; injection h
    have := hx n rfl
    rw [List.length_drop] at this
    omega
theorem nestL_le (P : Bool → Kd → Nat → R) (e : UInt8) (q : Bool) (l : Bs) (hP : ∀ q k i j, P q k i = .ok j → i < j ∧ j ≤ l.length) :
    ∀ (n i o j : Nat), nestL P e q l n i o = .ok j → i < j ∧ j ≤ l.length := by
  intro n
  induction n with
  | zero => intro i o j h; rw [nestL] at h; cases h
  | succ n ih =>
    intro i o j h
    rw [nestL] at h
    split at h
    · cases h
    · rename_i hi
      split at h
      · split at h
        · rename_i k hk m hm
          have h1 := hP _ _ _ _ hm
          have h2 := ih _ _ _ h
          omega
        · rename_i hno
          exact absurd h (hno _)
      · split at h
        · injection h with h; omega
        · split at h
          · have := ih _ _ _ h; omega
          · split at h
            · have := ih _ _ _ h; omega
            · have := ih _ _ _ h; omega
theorem partL_le (l : Bs) : ∀ (d : Nat) (q : Bool) (k : Kd) (i j : Nat), partL l d q k i = .ok j → i < j ∧ j ≤ l.length := by
  intro d
  induction d with
  | zero => intro q k i j h; rw [partL] at h; cases h
  | succ d ih =>
    intro q k i j h
    cases k <;> simp only [partL] at h
    · split at h
      · injection h with h; omega
      · cases h
    · have := lift_le h (toQ_le _ _); omega
    · have := nestL_le _ _ _ _ ih _ _ _ _ h; omega
    · have := lift_le h (ari_le _ _); omega
    · have := nestL_le _ _ _ _ ih _ _ _ _ h; omega
    · have := nestL_le _ _ _ _ ih _ _ _ _ h; omega
    · have := lift_le h (grv_le _ _ (Nat.le_refl _)); omega
theorem wordL_le (l : Bs) : ∀ (n i j : Nat), wordL l n i = .ok j → i ≤ j ∧ (i ≤ l.length → j ≤ l.length) := by
  intro n
  induction n with
  | zero => intro i j h; rw [wordL] at h; injection h with h; omega
  | succ n ih =>
    intro i j h
    rw [wordL] at h
    split at h
    · injection h with h; omega
    · split at h
      · injection h with h; omega
      · split at h
        · have := ih _ _ h; omega
        · split at h
          · rename_i m hm
            have h1 := partL_le _ _ _ _ _ _ hm
            have h2 := ih _ _ h
            omega
          · rename_i hno
            exact absurd h (hno _)
end Go.Proofs.Ytoahgblgchmclaa
