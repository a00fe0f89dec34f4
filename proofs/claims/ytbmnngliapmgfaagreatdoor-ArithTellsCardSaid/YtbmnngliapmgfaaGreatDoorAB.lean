/- Plain mathematics of package arith: the tokens of a text, the parser over them, what a node is worth. -/
/- Base of the walks: what changes in a world; facts on bytes; the shelf's contracts as they are met. -/
import Derived.RowKit
import Derived.Test.YtbmnngliapmgfaaGreatDoorShelf
import Derived.Shelf.Strings.SlTrimAscii
import Derived.WalkKit
import Derived.WalkSpells
import Derived.WalkLawsBesides
import Derived.Below
import Derived.Recover
import Derived.Deep.OwnRows
import Derived.Deep.QuietTactic
import Derived.Deep.AppendLies
import Derived.BigQuiet
import Derived.BigRegion
import Derived.Lib.Hide
import Derived.Lib.LaidTab
import Derived.Lib.FrozenHead
import Derived.Laws.OwnMore
import Derived.Laws.Rows
namespace Go.Proofs.YtbmnngliapmgfaaGreatDoor
open Go.RowKit
set_option linter.unusedVariables false
set_option linter.unusedSimpArgs false
abbrev Bs := List UInt8
def isDg (c : UInt8) : Bool := decide (48 ≤ c.toNat) && decide (c.toNat ≤ 57)
def isLt (c : UInt8) : Bool := (decide (97 ≤ c.toNat) && decide (c.toNat ≤ 122)) || (decide (65 ≤ c.toNat) && decide (c.toNat ≤ 90)) || decide (c.toNat = 95)
def isBl (c : UInt8) : Bool := ([32, 9, 10] : Bs).contains c
/-- a digit's value, 16 for what is none. -/
def dg (c : UInt8) : Nat :=
  if isDg c = true then c.toNat - 48 else if 97 ≤ c.toNat ∧ c.toNat ≤ 102 then c.toNat - 87 else if 65 ≤ c.toNat ∧ c.toNat ≤ 70 then c.toNat - 55 else 16
def hexB (s : Bs) : Bool := match s with
  | a :: x :: d :: _ => a == 48 && (x == 120 || x == 88) && decide (dg d < 16)
  | _ => false
def base (s : Bs) : Nat × Nat := if hexB s = true then (16, 2) else if s.head? = some 48 then (8, 0) else (10, 0)
def dval (b : Nat) : Bs → Nat → Nat
  | [], v => v
  | c :: r, v => if dg c < b then dval b r (v * b + dg c) else v
def dlen (b : Nat) : Bs → Nat
  | [] => 0
  | c :: r => if dg c < b then dlen b r + 1 else 0
def cstV (s : Bs) : Int := wrap64 (dval (base s).1 (s.drop (base s).2) 0 : Nat)
def cstN (s : Bs) : Nat := (base s).2 + dlen (base s).1 (s.drop (base s).2)
def nameN : Bs → Nat
  | [] => 0
  | c :: r => if (isLt c || isDg c) = true then nameN r + 1 else 0
def assignL : List Bs := [[61], [42, 61], [47, 61], [37, 61], [43, 61], [45, 61], [60, 60, 61], [62, 62, 61], [38, 61], [94, 61], [124, 61]]
def signL : List Bs := [[63], [58], [124, 124], [38, 38], [124], [94], [38], [61, 61], [33, 61], [60], [60, 61], [62], [62, 61], [60, 60], [62, 62], [43], [45], [42], [47], [37], [126], [33], [40], [41]]
def isAsg (t : Bs) : Bool := assignL.contains t
def isSgn (t : Bs) : Bool := signL.contains t || isAsg t
def sgnN (s : Bs) : Option Nat :=
  if 3 ≤ s.length ∧ isSgn (s.take 3) = true then some 3 else if 2 ≤ s.length ∧ isSgn (s.take 2) = true then some 2 else if 1 ≤ s.length ∧ isSgn (s.take 1) = true then some 1 else none
def isC (t : Bs) : Bool := match t with
  | c :: _ => isDg c
  | [] => false
def isN (t : Bs) : Bool := match t with
  | c :: _ => isLt c
  | [] => false
/-- how long the first token is. -/
def tokN (s : Bs) : Option Nat := if isC s = true then some (cstN s) else if isN s = true then some (nameN s) else sgnN s
def trimB (s : Bs) : Bs := s.dropWhile (([32, 9, 10] : Bs).contains ·)
def toksT : Nat → Bs → Option (List Bs)
  | 0, _ => none
  | f + 1, s => if s = [] then some [] else match tokN s with
    | none => none
    | some k => (toksT f (trimB (s.drop k))).map (s.take k :: ·)
def toks (s : Bs) : Option (List Bs) := toksT (s.length + 1) (trimB s)

inductive Nd where
  | num (n : Int)
  | nam (s : Bs)
  | pre (g : Bs) (r : Nd)
  | bin (g : Bs) (l r : Nd)
  | cho (c y n : Nd)
  | asg (s g : Bs) (r : Nd)
inductive Kd where
  | asg
  | cho
  | lev (k : Nat)
  | more (k : Nat) (l : Nd)
  | un
def levL : List (List Bs) := [[[124, 124]], [[38, 38]], [[124]], [[94]], [[38]], [[61, 61], [33, 61]], [[60], [60, 61], [62], [62, 61]], [[60, 60], [62, 62]], [[43], [45]], [[42], [47], [37]]]
def lev (k : Nat) : List Bs := levL.getD k []
def preL : List Bs := [[43], [45], [126], [33]]
/-- the kind of a level's operands. -/
def opK (k : Nat) : Kd := if k = 9 then .un else .lev (k + 1)
def pP : Nat → Kd → Nat → List Bs → Option (Nd × List Bs)
  | 0, _, _, _ => none
  | f + 1, .asg, o, ts => if 24 < o then none else match ts with
    | a :: b :: r => if (isN a && isAsg b) = true then (pP f .asg (o + 1) r).map fun x => (.asg a b.dropLast x.1, x.2) else pP f .cho (o + 1) ts
    | _ => pP f .cho (o + 1) ts
  | f + 1, .cho, o, ts => if 24 < o then none else match pP f (.lev 0) (o + 1) ts with
    | none => none
    | some (c, r) => if r.head? = some [63] then match pP f .asg (o + 1) r.tail with
        | none => none
        | some (y, r2) => if r2.head? = some [58] then (pP f .cho (o + 1) r2.tail).map fun x => (.cho c y x.1, x.2) else none
      else some (c, r)
  | f + 1, .lev k, o, ts => match pP f (opK k) o ts with
    | none => none
    | some (l, r) => pP f (.more k l) o r
  | f + 1, .more k l, o, ts => match ts with
    | [] => some (l, [])
    | t :: r => if (lev k).contains t = true then match pP f (opK k) o r with
        | none => none
        | some (x, r2) => pP f (.more k (.bin t l x)) o r2
      else some (l, t :: r)
  | f + 1, .un, o, ts => if 24 < o then none else match ts with
    | [] => none
    | t :: r => if preL.contains t = true then (pP f .un (o + 1) r).map fun x => (.pre t x.1, x.2)
      else if t = [40] then match pP f .asg (o + 1) r with
        | none => none
        | some (x, r2) => if r2.head? = some [41] then some (x, r2.tail) else none
      else if isC t = true then some (.num (cstV t), r)
      else if isN t = true then some (.nam t, r)
      else none
/-- how much is enough, for a kind and a number of tokens. -/
def enough : Kd → Nat → Nat
  | .asg, n => 20 * n + 15
  | .cho, n => 20 * n + 14
  | .lev k, n => 20 * n + 13 - k
  | .more _ _, n => 20 * n + 2
  | .un, n => 20 * n + 3

def truth (b : Bool) : Int := if b = true then 1 else 0
def preI (g : Bs) (n : Int) : Int := if g = [45] then wrap64 (-n) else if g = [126] then bits .xor .i64 (-1) n else if g = [33] then truth (n == 0) else n
def low6 (n : Int) : Int := bits .and .u64 (IntKind.u64.wrap n) 63
def holdI (g : Bs) (a b : Int) : Bool :=
  if g = [61, 61] then a == b else if g = [33, 61] then a != b else if g = [60] then decide (a < b) else if g = [60, 61] then decide (a ≤ b) else if g = [62] then decide (b < a) else if g = [62, 61] then decide (b ≤ a) else b != 0
def opI (g : Bs) (a b : Int) : Int × Int :=
  if g = [47] ∨ g = [37] then if b = 0 then (0, 22) else if g = [47] then (wrap64 (a.tdiv b), 0) else (a.tmod b, 0)
  else if g = [60, 60] then (wrap64 (a * 2 ^ (low6 b).toNat), 0)
  else if g = [62, 62] then (a / 2 ^ (low6 b).toNat, 0)
  else if g = [42] then (wrap64 (a * b), 0)
  else if g = [43] then (wrap64 (a + b), 0)
  else if g = [45] then (wrap64 (a - b), 0)
  else if g = [38] then (bits .and .i64 a b, 0)
  else if g = [94] then (bits .xor .i64 a b, 0)
  else if g = [124] then (bits .or .i64 a b, 0)
  else (truth (holdI g a b), 0)
abbrev Own := List (Bs × Int)
def numV (t : Bs) : Int × Int :=
  if t = [] then (0, 0) else
    let d := if t.head? = some 45 then t.tail else t
    if d = [] ∨ cstN d < d.length then (0, 20) else if t.head? = some 45 then (wrap64 (-cstV d), 0) else (cstV d, 0)
def findO : Own → Bs → Option Int
  | [], _ => none
  | p :: r, n => if p.1 = n then some p.2 else findO r n
def findG : List (Bs × Bs) → Bs → Option Bs
  | [], _ => none
  | p :: r, n => if p.1 = n then some p.2 else findG r n
def getV (g : List (Bs × Bs)) (o : Own) (n : Bs) : Int × Int := match findO o n with
  | some v => (v, 0)
  | none => match findG g n with
    | some t => numV t
    | none => (0, 0)
def setV : Own → Bs → Int → Own
  | [], n, v => [(n, v)]
  | p :: r, n, v => if p.1 = n then (p.1, v) :: r else p :: setV r n v
def ev (g : List (Bs × Bs)) : Nd → Own → (Int × Int) × Own
  | .num n, o => ((n, 0), o)
  | .nam s, o => (getV g o s, o)
  | .pre s r, o => match ev g r o with
    | ((a, e), o1) => if e = 0 then ((preI s a, 0), o1) else ((0, e), o1)
  | .bin s l r, o => match ev g l o with
    | ((a, e), o1) => if e = 0 then
        if (s = [38, 38] ∧ a = 0) ∨ (s = [124, 124] ∧ a ≠ 0) then ((truth (a != 0), 0), o1) else match ev g r o1 with
          | ((b, e2), o2) => if e2 = 0 then (opI s a b, o2) else ((0, e2), o2)
      else ((0, e), o1)
  | .cho c y n, o => match ev g c o with
    | ((a, e), o1) => if e = 0 then if a = 0 then ev g n o1 else ev g y o1 else ((0, e), o1)
  | .asg s t r, o => match ev g r o with
    | ((a, e), o1) => if e = 0 then
        if t = [] then ((a, 0), setV o1 s a)
        else if (getV g o1 s).2 = 0 then
          if (opI t (getV g o1 s).1 a).2 = 0 then (((opI t (getV g o1 s).1 a).1, 0), setV o1 s (opI t (getV g o1 s).1 a).1) else ((0, (opI t (getV g o1 s).1 a).2), o1)
        else ((0, (getV g o1 s).2), o1)
      else ((0, e), o1)
def parsed (s : Bs) : Option Nd :=
  if 256 < s.length then none else match toks s with
    | none => none
    | some ts => if ts = [] then some (.num 0) else match pP (20 * ts.length + 15) .asg 0 ts with
      | none => none
      | some (n, r) => if r = [] then some n else none
/-- the value of a text: the number, the error, what was set. -/
def valP (g : List (Bs × Bs)) (s : Bs) : Int × Int × Own := match parsed s with
  | none => (0, 17, [])
  | some n => match ev g n [] with
    | ((a, e), o) => if e = 0 then (a, 0, o) else (0, e, [])

theorem dlen_le (b : Nat) (s : Bs) : dlen b s ≤ s.length := by
  induction s with
  | nil => simp [dlen]
  | cons c r ih => rw [dlen]; split <;> simp <;> omega
theorem nameN_le (s : Bs) : nameN s ≤ s.length := by
  induction s with
  | nil => simp [nameN]
  | cons c r ih => rw [nameN]; split <;> simp <;> omega
theorem base_le (s : Bs) : (base s).2 ≤ s.length := by
  unfold base
  split
  · rename_i h
    unfold hexB at h
    split at h
    · simp
    · cases h
  · split <;> simp
theorem cstN_le (s : Bs) : cstN s ≤ s.length := by
  have h1 := base_le s
  have h2 := dlen_le (base s).1 (s.drop (base s).2)
  rw [List.length_drop] at h2
  unfold cstN; omega
theorem dg_digit {c : UInt8} (h : isDg c = true) : dg c = c.toNat - 48 ∧ dg c < 10 := by
  unfold dg
  rw [if_pos h]
  unfold isDg at h
  simp only [Bool.and_eq_true, decide_eq_true_eq] at h
  omega
theorem base_two (s : Bs) : (base s).1 = 16 ∨ (base s).1 = 8 ∨ (base s).1 = 10 := by
  unfold base
  split
  · exact .inl rfl
  · split
    · exact .inr (.inl rfl)
    · exact .inr (.inr rfl)
theorem cstN_pos {s : Bs} (h : isC s = true) : 0 < cstN s := by
  cases s with
  | nil => cases h
  | cons c r =>
    have hc := dg_digit (c := c) h
    unfold cstN
    rcases hb : base (c :: r) with ⟨b, k⟩
    unfold base at hb
    split at hb
    · cases hb; dsimp only; omega
    · split at hb
      · rename_i h48
        cases hb
        simp at h48
        subst h48
        have e : dg 48 = 0 := by decide
        simp [dlen, e]
      · cases hb
        simp only [List.drop_zero, dlen, if_pos hc.2]; omega
theorem nameN_pos {s : Bs} (h : isN s = true) : 0 < nameN s := by
  cases s with
  | nil => cases h
  | cons c r =>
    have : isLt c = true := h
    rw [nameN, this]; simp
theorem sgnN_pos {s : Bs} {k : Nat} (h : sgnN s = some k) : 0 < k ∧ k ≤ s.length := by
  unfold sgnN at h
  split at h
  · cases h; omega
  · split at h
    · cases h; omega
    · split at h
      · cases h; omega
      · cases h
theorem tokN_pos {s : Bs} {k : Nat} (h : tokN s = some k) : 0 < k ∧ k ≤ s.length := by
  unfold tokN at h
  split at h
  · rename_i hc; cases h; exact ⟨cstN_pos hc, cstN_le s⟩
  · split at h
    · rename_i hn; cases h; exact ⟨nameN_pos hn, nameN_le s⟩
    · exact sgnN_pos h
theorem trimB_le (s : Bs) : (trimB s).length ≤ s.length := by
  unfold trimB
  induction s with
  | nil => simp
  | cons c r ih =>
    rw [List.dropWhile_cons]
    split
    · simp only [List.length_cons] at *; omega
    · exact Nat.le_refl _
/-- all tokens have bytes, and there are no more tokens than bytes. -/
theorem toksT_ne : ∀ (f : Nat) (s : Bs) (ts : List Bs), toksT f s = some ts → (∀ t ∈ ts, t ≠ []) ∧ ts.length ≤ s.length
  | 0, s, ts, h => by cases h
  | f + 1, s, ts, h => by
    rw [toksT] at h
    split at h
    · cases h; exact ⟨fun t ht => (by cases ht), Nat.zero_le _⟩
    · split at h
      · cases h
      · rename_i k hk
        obtain ⟨h0, h1⟩ := tokN_pos hk
        cases hr : toksT f (trimB (s.drop k)) with
        | none => rw [hr] at h; cases h
        | some r =>
          rw [hr] at h
          cases h
          obtain ⟨a1, a2⟩ := toksT_ne f _ r hr
          have := trimB_le (s.drop k)
          rw [List.length_drop] at this
          refine ⟨fun t ht => ?_, (show r.length + 1 ≤ s.length by omega)⟩
          rcases List.mem_cons.1 ht with rfl | ht
          · intro e
            have := congrArg List.length e
            rw [List.length_take, List.length_nil] at this
            omega
          · exact a1 t ht
theorem toks_ne {s : Bs} {ts : List Bs} (h : toks s = some ts) : (∀ t ∈ ts, t ≠ []) ∧ ts.length ≤ s.length := by
  obtain ⟨a, b⟩ := toksT_ne _ _ _ h
  exact ⟨a, Nat.le_trans b (trimB_le s)⟩
/-- enough is as good as more. -/
theorem toksT_more : ∀ (f g : Nat) (s : Bs), s.length < f → s.length < g → toksT f s = toksT g s
  | 0, _, _, h, _ => by omega
  | _, 0, _, _, h => by omega
  | f + 1, g + 1, s, hf, hg => by
    rw [toksT, toksT]
    split
    · rfl
    · split
      · rfl
      · rename_i k hk
        obtain ⟨h0, h1⟩ := tokN_pos hk
        have := trimB_le (s.drop k)
        rw [List.length_drop] at this
        rw [toksT_more f g (trimB (s.drop k)) (by omega) (by omega)]
theorem pP_asg2 (f o : Nat) (a b : Bs) (r : List Bs) : pP (f + 1) .asg o (a :: b :: r) = if 24 < o then none else if (isN a && isAsg b) = true then (pP f .asg (o + 1) r).map fun x => (.asg a b.dropLast x.1, x.2) else pP f .cho (o + 1) (a :: b :: r) := rfl
theorem pP_asg1 (f o : Nat) (ts : List Bs) (h : ts.length < 2) : pP (f + 1) .asg o ts = if 24 < o then none else pP f .cho (o + 1) ts := by
  match ts, h with
  | [], _ => rfl
  | [a], _ => rfl
theorem pP_cho (f o : Nat) (ts : List Bs) : pP (f + 1) .cho o ts = if 24 < o then none else match pP f (.lev 0) (o + 1) ts with
    | none => none
    | some (c, r) => if r.head? = some [63] then match pP f .asg (o + 1) r.tail with
        | none => none
        | some (y, r2) => if r2.head? = some [58] then (pP f .cho (o + 1) r2.tail).map fun x => (.cho c y x.1, x.2) else none
      else some (c, r) := rfl
theorem pP_lev (f k o : Nat) (ts : List Bs) : pP (f + 1) (.lev k) o ts = match pP f (opK k) o ts with
    | none => none
    | some (l, r) => pP f (.more k l) o r := rfl
theorem pP_more0 (f k o : Nat) (l : Nd) : pP (f + 1) (.more k l) o [] = some (l, []) := rfl
theorem pP_more (f k o : Nat) (l : Nd) (t : Bs) (r : List Bs) : pP (f + 1) (.more k l) o (t :: r) = if (lev k).contains t = true then match pP f (opK k) o r with
        | none => none
        | some (x, r2) => pP f (.more k (.bin t l x)) o r2
      else some (l, t :: r) := rfl
theorem pP_un0 (f o : Nat) : pP (f + 1) .un o [] = none := by
  show (if 24 < o then none else none) = none
  split <;> rfl
theorem pP_un (f o : Nat) (t : Bs) (r : List Bs) : pP (f + 1) .un o (t :: r) = if 24 < o then none else if preL.contains t = true then (pP f .un (o + 1) r).map fun x => (.pre t x.1, x.2)
      else if t = [40] then match pP f .asg (o + 1) r with
        | none => none
        | some (x, r2) => if r2.head? = some [41] then some (x, r2.tail) else none
      else if isC t = true then some (.num (cstV t), r)
      else if isN t = true then some (.nam t, r)
      else none := rfl
theorem pP_deep (f : Nat) (K : Kd) (o : Nat) (ts : List Bs) (hK : K = .asg ∨ K = .cho ∨ K = .un) (h : 24 < o) : pP (f + 1) K o ts = none := by
  rcases hK with rfl | rfl | rfl
  · match ts with
    | [] => rw [pP_asg1 _ _ _ (by simp), if_pos h]
    | [a] => rw [pP_asg1 _ _ _ (by simp), if_pos h]
    | a :: b :: r => rw [pP_asg2, if_pos h]
  · rw [pP_cho, if_pos h]
  · match ts with
    | [] => rw [pP_un0]
    | t :: r => rw [pP_un, if_pos h]
/-- what is left is no longer than what came. -/
theorem pP_le : ∀ (f : Nat) (K : Kd) (o : Nat) (ts : List Bs) (n : Nd) (r : List Bs), pP f K o ts = some (n, r) → r.length ≤ ts.length
  | 0, _, _, _, _, _, h => by cases h
  | f + 1, .asg, o, ts, n, r, h => by
    by_cases h2 : ts.length < 2
    · rw [pP_asg1 _ _ _ h2] at h
      split at h
      · cases h
      · exact pP_le f _ _ _ _ _ h
    · match ts, h2 with
      | [], h2 => exact absurd (by simp) h2
      | [a], h2 => exact absurd (by simp) h2
      | a :: b :: q, _ =>
        rw [pP_asg2] at h
        split at h
        · cases h
        · split at h
          · cases hx : pP f .asg (o + 1) q with
            | none => rw [hx] at h; cases h
            | some x => rw [hx] at h; cases h; have := pP_le f _ _ _ x.1 x.2 hx; simp; omega
          · exact pP_le f _ _ _ _ _ h
  | f + 1, .cho, o, ts, n, r, h => by
    rw [pP_cho] at h
    split at h
    · cases h
    · split at h
      · cases h
      · rename_i c q hq
        have l1 := pP_le f _ _ _ _ _ hq
        split at h
        · split at h
          · cases h
          · rename_i y r2 hy
            have l2 := pP_le f _ _ _ _ _ hy
            rw [List.length_tail] at l2
            split at h
            · cases hx : pP f .cho (o + 1) r2.tail with
              | none => rw [hx] at h; cases h
              | some x => rw [hx] at h; cases h; have := pP_le f _ _ _ x.1 x.2 hx; rw [List.length_tail] at this; omega
            · cases h
        · cases h; exact l1
  | f + 1, .lev k, o, ts, n, r, h => by
    rw [pP_lev] at h
    split at h
    · cases h
    · rename_i l q hq
      exact Nat.le_trans (pP_le f _ _ _ _ _ h) (pP_le f _ _ _ _ _ hq)
  | f + 1, .more k l, o, [], n, r, h => by
    rw [pP_more0] at h
    cases h; simp
  | f + 1, .more k l, o, t :: q, n, r, h => by
    rw [pP_more] at h
    split at h
    · split at h
      · cases h
      · rename_i x r2 hx
        have := pP_le f _ _ _ _ _ hx
        have := pP_le f _ _ _ _ _ h
        simp; omega
    · cases h; simp
  | f + 1, .un, o, [], n, r, h => by
    rw [pP_un0] at h
    cases h
  | f + 1, .un, o, t :: q, n, r, h => by
    rw [pP_un] at h
    split at h
    · cases h
    · · split at h
        · cases hx : pP f .un (o + 1) q with
          | none => rw [hx] at h; cases h
          | some x => rw [hx] at h; cases h; have := pP_le f _ _ _ x.1 x.2 hx; simp; omega
        · split at h
          · split at h
            · cases h
            · rename_i x r2 hx
              have := pP_le f _ _ _ _ _ hx
              split at h
              · cases h; rw [List.length_tail]; simp; omega
              · cases h
          · split at h
            · cases h; simp
            · split at h
              · cases h; simp
              · cases h
end Go.Proofs.YtbmnngliapmgfaaGreatDoor
namespace Go.Proofs.YtbmnngliapmgfaaGreatDoor
open Go.RowKit
set_option linter.unusedVariables false
set_option linter.unusedSimpArgs false

theorem ret_bool {a b : Bool} (h : a = b) : Ending.returned (.bool a) = .returned (.bool b) := by rw [h]
theorem ret_int {k : IntKind} {a b : Int} (h : a = b) : Ending.returned (.int k a) = .returned (.int k b) := by rw [h]
theorem ret_val {a b : Value} (h : a = b) : Ending.returned a = .returned b := by rw [h]
theorem cell_lt {w : World} {g j : Nat} {v : Value} (hc : w.cell? ⟨g, j, none⟩ = some v) : g < w.heap.size := by
  unfold World.cell? at hc
  cases ho : w.heap[g]? with
  | none => simp [ho] at hc
  | some o => exact (Array.getElem?_eq_some_iff.1 ho).1
/-- the world has changed in these blocks alone, and has new ones. -/
structure Fr (S : Nat → Prop) (w w' : World) : Prop where
  os : w'.os = w.os
  tape : w'.tape = w.tape
  output : w'.output = w.output
  size : w.heap.size ≤ w'.heap.size
  block : ∀ k, k < w.heap.size → ¬ S k → w'.heap[k]? = w.heap[k]?
theorem Fr.refl (S : Nat → Prop) (w : World) : Fr S w w := ⟨rfl, rfl, rfl, Nat.le_refl _, fun _ _ _ => rfl⟩
theorem Fr.trans {S : Nat → Prop} {a b c : World} (h : Fr S a b) (k : Fr S b c) : Fr S a c :=
  ⟨k.os.trans h.os, k.tape.trans h.tape, k.output.trans h.output, Nat.le_trans h.size k.size, fun i hi hn => (k.block i (Nat.lt_of_lt_of_le hi h.size) hn).trans (h.block i hi hn)⟩
theorem Fr.mono {S S' : Nat → Prop} {a b : World} (h : Fr S a b) (hs : ∀ k, k < a.heap.size → S k → S' k) : Fr S' a b :=
  ⟨h.os, h.tape, h.output, h.size, fun i hi hn => h.block i hi fun k => hn (hs i hi k)⟩
theorem Fr.drewN {S : Nat → Prop} {a b : World} (h : Fr S a b) (n : Nat) : Fr S a (b.drewN n) := ⟨h.os, h.tape, h.output, h.size, h.block⟩
theorem Fr.drew {S : Nat → Prop} {a b : World} (h : Fr S a b) : Fr S a b.drew := ⟨h.os, h.tape, h.output, h.size, h.block⟩
theorem Fr.alloc {S : Nat → Prop} {a b : World} (h : Fr S a b) (o : Obj) : Fr S a (b.alloc o) :=
  ⟨h.os, h.tape, h.output, Nat.le_trans h.size (by simp), fun i hi hn => (Below.heap_alloc b o i (Nat.lt_of_lt_of_le hi h.size)).trans (h.block i hi hn)⟩
theorem Fr.setCell {S : Nat → Prop} {a b : World} (h : Fr S a b) {p : Addr} (hp : S p.block ∨ a.heap.size ≤ p.block) (u : Value) : Fr S a (b.setCell p u) :=
  ⟨h.os, h.tape, h.output, by simpa [World.setCell] using h.size, fun i hi hn => (Below.heap_setCell b p u i (by
    rintro rfl
    rcases hp with hp | hp
    · exact hn hp
    · omega)).trans (h.block i hi hn)⟩
theorem Fr.of_below {S : Nat → Prop} {a b : World} (h : Below a.heap.size a b) : Fr S a b := ⟨h.os, h.tape, h.output, h.size, fun i hi _ => h.block i hi⟩
theorem Fr.cell {S : Nat → Prop} {a b : World} (h : Fr S a b) {g o : Nat} {v : Value} (hc : a.cell? ⟨g, o, none⟩ = some v) (hn : ¬ S g) : b.cell? ⟨g, o, none⟩ = some v :=
  (World.cell?_of_block (h.block g (cell_lt hc) hn)).trans hc
theorem Fr.setCells {S : Nat → Prop} {a : World} {g : Nat} (hp : S g ∨ a.heap.size ≤ g) : ∀ (vs : List Value) (o : Nat) (b : World), Fr S a b → Fr S a (b.setCells g o vs)
  | [], _, _, h => h
  | v :: r, o, b, h => Fr.setCells hp r (o + 1) _ (h.setCell (p := ⟨g, o, none⟩) hp v)
theorem Fr.below {S : Nat → Prop} {B : Nat} {w0 a b : World} (h : Below B w0 a) (hB : B ≤ w0.heap.size) (k : Fr S a b) (hs : ∀ g, S g → B ≤ g) : Below B w0 b :=
  h.trans ⟨k.os, k.tape, k.output, k.size, fun i hi => k.block i (by have := h.size; omega) (fun e => by have := hs i e; omega)⟩


theorem Fr.one (w : World) (P o : Nat) (u : Value) : Fr (· = P) w (w.setCell ⟨P, o, none⟩ u) := (Fr.refl _ _).setCell (p := ⟨P, o, none⟩) (.inl (by simp)) u
theorem Fr.grown {a b : World} {row : Option Nat} (k : a.grownBy b row) : Fr (fun i => row = some i) a b :=
  ⟨k.os, k.tape, k.output, k.size, fun i hi hn => k.block i hi (fun e => hn e.symm)⟩
theorem heap_set {W : World} {T : Nat} {cs : Array Value} {t : TypeId} {fr : Nat × Nat} (hb : W.heap[T]? = some (.cells cs t fr)) (i : Nat) (u : Value) : (W.setCell ⟨T, i, none⟩ u).heap[T]? = some (.cells (cs.setIfInBounds i u) t fr) := by
  simp [World.setCell, Array.getElem?_modify, hb]
theorem heap_lt {W : World} {T : Nat} {o : Obj} (hb : W.heap[T]? = some o) : T < W.heap.size := (Array.getElem?_eq_some_iff.1 hb).1
section
variable {W W' : World} {B n : Nat} {e : TypeId} {v : Value} {xs : List Value}
theorem own_type (h : W.ownsRow B e 1 v n xs) {k : Nat} (hk : v.ownBlock = some k) : B ≤ k ∧ k < W.heap.size ∧ ∃ cur fz, W.heap[k]? = some (.cells cur e fz) := by
  rcases h.2 with ⟨rfl, _⟩ | ⟨g, cap, cur, rfl, hb, hg, _⟩
  · simp [Value.ownBlock] at hk
  · simp [Value.ownBlock] at hk
    subst hk
    exact ⟨hb, heap_lt hg, cur, _, hg⟩
theorem ownF_type (h : W.ownsRowF B e 1 v n xs) {k : Nat} (hk : v.ownBlock = some k) : B ≤ k ∧ k < W.heap.size ∧ ∃ cur fz, W.heap[k]? = some (.cells cur e fz) := by
  rcases h.2 with ⟨rfl, _⟩ | ⟨g, cap, cur, fz, rfl, hb, hg, _⟩
  · simp [Value.ownBlock] at hk
  · simp [Value.ownBlock] at hk
    subst hk
    exact ⟨hb, heap_lt hg, cur, _, hg⟩
theorem own_fr {S : Nat → Prop} (h : W.ownsRow B e 1 v n xs) (f : Fr S W W') (hs : ∀ k, v.ownBlock = some k → ¬ S k) : W'.ownsRow B e 1 v n xs := by
  refine ⟨h.1, ?_⟩
  rcases h.2 with hn | ⟨g, cap, cur, rfl, hb, hg, rest⟩
  · exact .inl hn
  · exact .inr ⟨g, cap, cur, rfl, hb, (f.block g (heap_lt hg) (hs g rfl)).trans hg, rest⟩
theorem ownF_fr {S : Nat → Prop} (h : W.ownsRowF B e 1 v n xs) (f : Fr S W W') (hs : ∀ k, v.ownBlock = some k → ¬ S k) : W'.ownsRowF B e 1 v n xs := by
  refine ⟨h.1, ?_⟩
  rcases h.2 with hn | ⟨g, cap, cur, fz, rfl, hb, hg, rest⟩
  · exact .inl hn
  · exact .inr ⟨g, cap, cur, fz, rfl, hb, (f.block g (heap_lt hg) (hs g rfl)).trans hg, rest⟩
theorem own_form (h : W.ownsRow B e 1 v n xs) : ∃ ao cap, v = .slice ao n cap ∧ n ≤ cap := by
  rcases h.2 with ⟨rfl, rfl⟩ | ⟨g, cap, cur, rfl, _, _, hc, _⟩
  · exact ⟨_, _, rfl, Nat.le_refl _⟩
  · exact ⟨_, _, rfl, hc⟩
theorem ownF_form (h : W.ownsRowF B e 1 v n xs) : ∃ ao cap, v = .slice ao n cap := by
  rcases h.2 with ⟨rfl, rfl⟩ | ⟨g, cap, cur, fz, rfl, _⟩
  · exact ⟨_, _, rfl⟩
  · exact ⟨_, _, rfl⟩
end
theorem types_ne {W : World} {k : Nat} {a b : Array Value} {s t : TypeId} {f g : Nat × Nat} (h1 : W.heap[k]? = some (.cells a s f)) (h2 : W.heap[k]? = some (.cells b t g)) (h : s ≠ t) : False := by
  rw [h1] at h2
  cases h2
  exact h rfl
theorem own_none (W : World) (B : Nat) (e : TypeId) : W.ownsRow B e 1 (.slice none 0 0) 0 [] := World.ownsRow_nil W B e 1

theorem u8_true (c d : UInt8) (h : c = d) : (((c.toNat : Int) == (d.toNat : Int)) : Bool) = true := by rw [h]; simp
theorem u8_false (c d : UInt8) (h : ¬ c = d) : (((c.toNat : Int) == (d.toNat : Int)) : Bool) = false := by
  rw [beq_eq_false_iff_ne]; intro e; exact h (UInt8.toNat_inj.1 (by omega))
theorem size_len (s : ByteArray) : s.data.toList.length = s.size := by simp
theorem str_eta (s : ByteArray) : (⟨s.data.toList.toArray⟩ : ByteArray) = s := by cases s; simp
theorem str_list (t : Bs) : (⟨t.toArray⟩ : ByteArray).data.toList = t := by simp
theorem str_size (t : Bs) : (⟨t.toArray⟩ : ByteArray).size = t.length := by simp [ByteArray.size]
/-- a string that is a list of bytes. -/
def st (t : Bs) : ByteArray := ⟨t.toArray⟩
theorem st_data (t : Bs) : (st t).data.toList = t := by simp [st]
theorem st_toList (t : Bs) : (st t).toList = t := by rw [Lib.toList_data]; exact st_data t
theorem st_size (t : Bs) : (st t).size = t.length := by simp [st, ByteArray.size]
theorem st_of (s : ByteArray) : st s.data.toList = s := by cases s; simp [st]
theorem st_inj {a b : Bs} (h : st a = st b) : a = b := by have := congrArg (fun s => s.data.toList) h; simpa [st] using this
theorem extract_mid (s : ByteArray) (a b : Nat) : (s.extract a b).data.toList = (s.data.toList.drop a).take (b - a) := by
  rw [ByteArray.data_extract, Array.toList_extract]
theorem extract_drop (s : ByteArray) (a : Nat) : s.extract a s.size = st (s.data.toList.drop a) := by
  rw [← st_of (s.extract a s.size), extract_mid, List.take_of_length_le (by rw [List.length_drop, size_len]; exact Nat.le_refl _)]
theorem extract_take (s : ByteArray) (b : Nat) : s.extract 0 b = st (s.data.toList.take b) := by
  rw [← st_of (s.extract 0 b), extract_mid, List.drop_zero, Nat.sub_zero]
theorem head_byte {s : ByteArray} (h : 0 < s.size) : ∃ r, s.data.toList = s[0] :: r := by
  have : s.data.toList.length = s.size := size_len s
  match hl : s.data.toList with
  | [] => rw [hl] at this; simp at this; omega
  | c :: r =>
    refine ⟨r, ?_⟩
    have h0 : s.data.toList[0]? = some s[0] := by
      rw [List.getElem?_eq_getElem (by omega)]; rfl
    rw [hl] at h0
    simp at h0
    rw [h0]
theorem at_byte {s : ByteArray} {k : Nat} (h : k < s.size) : s.data.toList.drop k = s[k] :: s.data.toList.drop (k + 1) := by
  rw [List.drop_eq_getElem_cons (by simpa using h)]; rfl
theorem Fr.bel {S : Nat → Prop} {a b : World} (h : Fr S a b) {B : Nat} (hs : ∀ k, S k → B ≤ k) (hB : B ≤ a.heap.size) : Below B a b :=
  ⟨h.os, h.tape, h.output, h.size, fun k hk => h.block k (by omega) (fun e => by have := hs k e; omega)⟩
end Go.Proofs.YtbmnngliapmgfaaGreatDoor
