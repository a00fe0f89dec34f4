/- What the functions of package mode give, as plain functions on lists of bytes. -/
import Derived.Test.YtmjjhoaplcjjcaaP
namespace Go.Proofs.Ytmjjhoaplcjjcaa
open Go

theorem drop_eq (s : ByteArray) (k : Nat) (h : k < s.size) : s.data.toList.drop k = s[k] :: s.data.toList.drop (k + 1) := by
  rw [List.drop_eq_getElem_cons (by simpa using h)]; rfl

def octN : List UInt8 → Nat → Option Nat
  | [], n => some n
  | c :: r, n => if 48 ≤ c.toNat ∧ c.toNat ≤ 55 then octN r (8 * n + (c.toNat - 48)) else none
def rightB (m : Int) : Bool := bits .andNot .i64 m 3071 == 0
def octS (l : List UInt8) : Option Nat :=
  if 1 ≤ l.length ∧ l.length ≤ 5 then (octN l 0).filter (fun n => rightB (n : Int)) else none

/-- the bits of a class's letter. -/
def clsOf (c : UInt8) : Option Nat :=
  if c = 117 then some 2496 else if c = 103 then some 56 else if c = 111 then some 519 else if c = 97 then some 3071 else none
def litOf (m : Int) (dir : Bool) (c : UInt8) : Option Nat :=
  if c = 114 then some 292 else if c = 119 then some 146 else if c = 120 then some 73
  else if c = 88 then some (if (dir || bits .and .i64 m 73 != 0) = true then 73 else 0)
  else if c = 115 then some 2048 else if c = 116 then some 512 else none

/-- the letters at the front that have a value: their join, and what follows. -/
def takeF (f : UInt8 → Option Nat) : List UInt8 → Nat → Nat × List UInt8
  | [], n => (n, [])
  | c :: r, n => match f c with
    | some b => takeF f r (n ||| b)
    | none => (n, c :: r)
def splitS (l : List UInt8) : Nat × List UInt8 :=
  match l with
  | [] => (0, [])
  | c :: r => match clsOf c with
    | none => (3071, c :: r)
    | some _ => takeF clsOf (c :: r) 0

def applyS (cls b : Nat) (sign : UInt8) (m : Int) : Option Int :=
  if sign = 43 then some (bits .or .i64 m (bits .and .i64 b cls))
  else if sign = 45 then some (bits .andNot .i64 m (bits .and .i64 b cls))
  else if sign = 61 then some (bits .or .i64 (bits .andNot .i64 m cls) (bits .and .i64 b cls))
  else none
/-- actions, one behind the other. -/
def actS (cls : Nat) (dir : Bool) : Nat → List UInt8 → Int → Option Int
  | _, [], m => some m
  | 0, _, _ => none
  | f + 1, sign :: r, m => match applyS cls (takeF (litOf m dir) r 0).1 sign m with
    | none => none
    | some m' => actS cls dir f (takeF (litOf m dir) r 0).2 m'
def clauseS (l : List UInt8) (m : Int) (dir : Bool) : Option Int :=
  if (splitS l).2 = [] then none else actS (splitS l).1 dir (splitS l).2.length (splitS l).2 m

/-- what stands ahead of the first comma. -/
def headS (l : List UInt8) : List UInt8 := l.takeWhile (· != 44)
def chgS (dir : Bool) : Nat → List UInt8 → Int → Option Int
  | 0, _, _ => none
  | f + 1, l, m => match clauseS (headS l) m dir with
    | none => none
    | some m' => if (headS l).length = l.length then some m' else chgS dir f (l.drop ((headS l).length + 1)) m'
def changeS (l : List UInt8) (m : Int) (dir : Bool) : Option Int :=
  if rightB m = true then
    match octS l with
    | some n => some (n : Int)
    | none => chgS dir (l.length + 1) l m
  else none

theorem takeF_len (f : UInt8 → Option Nat) (l : List UInt8) (n : Nat) : (takeF f l n).2.length ≤ l.length := by
  induction l generalizing n with
  | nil => simp [takeF]
  | cons c r ih =>
    unfold takeF
    cases f c with
    | none => simp
    | some b => have := ih (n ||| b); simp; omega

def optV : Option Int → Value
  | some n => .tuple #[.int .i64 n, .bool true]
  | none => .tuple #[.int .i64 0, .bool false]
end Go.Proofs.Ytmjjhoaplcjjcaa
