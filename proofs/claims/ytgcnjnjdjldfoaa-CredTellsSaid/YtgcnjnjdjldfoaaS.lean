/- Plain functions of package cred: ids, credentials, and what each of the four calls tells. -/
import Derived.Test.YtgcnjnjdjldfoaaRows
namespace Go.Proofs.Ytgcnjnjdjldfoaa


theorem ret_bool {a b : Bool} (h : a = b) : Ending.returned (.bool a) = .returned (.bool b) := by rw [h]
/-- credentials: real, effective, saved, group, effective group. -/
structure Crd where
  r : Int
  e : Int
  s : Int
  g : Int
  x : Int
def noC : Crd := ⟨0, 0, 0, 0, 0⟩
def Crd.val (c : Crd) : Value := .agg #[.int .i64 c.r, .int .i64 c.e, .int .i64 c.s, .int .i64 c.g, .int .i64 c.x]
/-- is a number an id? -/
def idB (n : Int) : Bool := decide (0 ≤ n ∧ n ≤ 65535)
/-- are all numbers ids? -/
def idsB : List Int → Bool
  | [] => true
  | n :: l => idB n && idsB l
def mayB (c : Crd) : Bool := idsB [c.r, c.e, c.s, c.g, c.x]
def rightB (c : Crd) (n : Int) : Bool := idsB [c.r, c.e, c.s, c.g, c.x, n]
theorem right_may (c : Crd) (n : Int) : rightB c n = (mayB c && idB n) := by
  simp [rightB, mayB, idsB, Bool.and_assoc]
def ofP (u g : Int) : Crd × Int := if idsB [u, g] = true then (⟨u, u, u, g, g⟩, 0) else (noC, 1)
/-- the effective id behind a file's execution. -/
def effP (c : Crd) (m o : Int) : Int := if (bits .and .i64 m 2048 != 0) = true then o else c.e
def execP (c : Crd) (m o : Int) : Crd × Int := if rightB c o = true then (⟨c.r, effP c m o, effP c m o, c.g, c.x⟩, 0) else (noC, 1)
def suidP (c : Crd) (u : Int) : Crd × Int :=
  if rightB c u = true then
    if c.e = 0 then (⟨u, u, u, c.g, c.x⟩, 0)
    else if u = c.r then (⟨c.r, u, c.s, c.g, c.x⟩, 0)
    else if u = c.s then (⟨c.r, u, c.s, c.g, c.x⟩, 0)
    else (noC, 2)
  else (noC, 1)
def sgidP (c : Crd) (n : Int) : Crd × Int :=
  if rightB c n = true then
    if c.e = 0 then (⟨c.r, c.e, c.s, n, n⟩, 0)
    else if n = c.g then (⟨c.r, c.e, c.s, c.g, n⟩, 0)
    else (noC, 2)
  else (noC, 1)
/-- what a call of package cred answers. -/
def ansV (a : Crd × Int) : Value := .tuple #[.agg #[.int .i64 a.1.r, .int .i64 a.1.e, .int .i64 a.1.s, .int .i64 a.1.g, .int .i64 a.1.x], .int .i64 a.2]
theorem id_iff (n : Int) : idB n = true ↔ 0 ≤ n ∧ n ≤ 65535 := by simp [idB]
theorem right_iff (c : Crd) (n : Int) : rightB c n = true ↔ (0 ≤ c.r ∧ c.r ≤ 65535) ∧ (0 ≤ c.e ∧ c.e ≤ 65535) ∧ (0 ≤ c.s ∧ c.s ≤ 65535) ∧ (0 ≤ c.g ∧ c.g ≤ 65535) ∧ (0 ≤ c.x ∧ c.x ≤ 65535) ∧ (0 ≤ n ∧ n ≤ 65535) := by
  simp [rightB, idsB, id_iff]
end Go.Proofs.Ytgcnjnjdjldfoaa
