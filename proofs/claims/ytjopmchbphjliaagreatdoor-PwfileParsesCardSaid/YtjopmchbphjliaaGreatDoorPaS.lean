/- What the functions of package path give, as plain functions on lists of bytes: no program in sight. -/
import Derived.Lib.Bytealg
import Derived.Lib.TrimByte
namespace Go.Proofs.YtjopmchbphjliaaGreatDoor
open Go

/-- the parts between strokes, empty ones too. -/
def spl : List UInt8 → List (List UInt8)
  | [] => [[]]
  | c :: r => if c = 47 then [] :: spl r else
    match spl r with
    | [] => [[c]]
    | p :: ps => (c :: p) :: ps
/-- what stands ahead of the first stroke. -/
def headP (l : List UInt8) : List UInt8 := l.takeWhile (· != 47)
/-- x put ahead of the first part. -/
def glue (x : List UInt8) : List (List UInt8) → List (List UInt8)
  | [] => [x]
  | p :: ps => (x ++ p) :: ps
def keepN (p : List UInt8) : Bool := p != [] && p != [46]
/-- the names of a path. -/
def nam (l : List UInt8) : List (List UInt8) := (spl l).filter keepN
def badC (c : UInt8) : Bool := decide (c.toNat < 32) || c.toNat == 127
def anyBad (l : List UInt8) : Bool := l.any badC
def longN (p : List UInt8) : Bool := decide (14 < p.length)
def anyLong (l : List UInt8) : Bool := (spl l).any longN
def splE (l : List UInt8) : Nat :=
  if l = [] then 3 else if 128 < l.length then 10 else if anyLong l = true then 10 else if anyBad l = true then 1 else 0
/-- the last part. -/
def lastP (l : List UInt8) : List UInt8 := (spl l).getLastD []
def dirP (l : List UInt8) : Bool := lastP l == [] || (lastP l == [46] || lastP l == [46, 46])
def absP (l : List UInt8) : Bool := l.head? == some 47
def splAbs (l : List UInt8) : Bool := if splE l = 0 then absP l else false
def splDir (l : List UInt8) : Bool := if splE l = 0 then dirP l else false
def splN (l : List UInt8) : List (List UInt8) := if splE l = 0 then nam l else []
def nameB (l : List UInt8) : Bool := decide (1 ≤ l.length) && decide (l.length ≤ 14) && l != [46] && l != [46, 46] && !anyBad l && !l.contains 47
def joinS (a b : List UInt8) : List UInt8 := if a = [] then b else if a.getLast? = some 47 then a ++ b else a ++ 47 :: b
/-- without the strokes at the end. -/
def trimS (l : List UInt8) : List UInt8 := Lib.trimRightB l 47
/-- behind the last stroke. -/
def tailS (l : List UInt8) : List UInt8 := (l.reverse.takeWhile (· != 47)).reverse
def upS (l : List UInt8) : List UInt8 := (l.reverse.dropWhile (· != 47)).reverse
def baseS (l : List UInt8) : List UInt8 × List UInt8 := if trimS l = [] then (l, []) else (upS (trimS l), tailS (trimS l))

theorem spl_ne (l : List UInt8) : spl l ≠ [] := by
  cases l with
  | nil => simp [spl]
  | cons c r =>
    unfold spl
    by_cases h : c = 47
    · rw [if_pos h]; simp
    · rw [if_neg h]; split <;> simp
theorem spl_cons (c : UInt8) (r : List UInt8) (h : c ≠ 47) : spl (c :: r) = glue [c] (spl r) := by
  rw [spl, if_neg h]
  cases spl r <;> rfl
theorem spl_sep (r : List UInt8) : spl (47 :: r) = [] :: spl r := by rw [spl, if_pos rfl]
theorem glue_glue (x y : List UInt8) (ps : List (List UInt8)) : glue x (glue y ps) = glue (x ++ y) ps := by
  cases ps <;> simp [glue]
theorem glue_nil (ps : List (List UInt8)) (h : ps ≠ []) : glue [] ps = ps := by
  cases ps with
  | nil => exact absurd rfl h
  | cons p ps => rfl
/-- a text without a stroke ahead of another. -/
theorem spl_plain (a b : List UInt8) (h : ∀ c ∈ a, c ≠ 47) : spl (a ++ b) = glue a (spl b) := by
  induction a with
  | nil => exact (glue_nil _ (spl_ne _)).symm
  | cons c r ih =>
    rw [List.cons_append, spl_cons _ _ (h c (by simp)), ih (fun x hx => h x (by simp [hx])), glue_glue]; rfl
theorem spl_append (a b : List UInt8) : spl (a ++ 47 :: b) = spl a ++ spl b := by
  induction a with
  | nil => exact spl_sep b
  | cons c r ih =>
    by_cases h : c = 47
    · subst h; rw [List.cons_append, spl_sep, spl_sep, ih]; rfl
    · rw [List.cons_append, spl_cons _ _ h, spl_cons _ _ h, ih]
      cases hr : spl r with
      | nil => exact absurd hr (spl_ne r)
      | cons p ps => rfl
theorem spl_one (a : List UInt8) (h : ∀ c ∈ a, c ≠ 47) : spl a = [a] := by
  have := spl_plain a [] h
  rw [List.append_nil] at this
  rw [this]; simp [spl, glue]
theorem headP_cons (c : UInt8) (r : List UInt8) : headP (c :: r) = if c = 47 then [] else c :: headP r := by
  unfold headP
  rw [List.takeWhile_cons]
  by_cases h : c = 47 <;> simp [h]
theorem headP_len (l : List UInt8) : (headP l).length ≤ l.length := by
  induction l with
  | nil => exact Nat.le_refl _
  | cons c r ih =>
    rw [headP_cons]
    by_cases h : c = 47
    · simp [h]
    · simp [h, ih]
theorem headP_take (l : List UInt8) : l.take (headP l).length = headP l := by
  induction l with
  | nil => rfl
  | cons c r ih =>
    rw [headP_cons]
    by_cases h : c = 47
    · simp [h]
    · simp [h, ih]
theorem headP_plain (l : List UInt8) : ∀ c ∈ headP l, c ≠ 47 := by
  induction l with
  | nil => intro c hc; cases hc
  | cons x r ih =>
    rw [headP_cons]
    by_cases h : x = 47
    · rw [if_pos h]; intro c hc; cases hc
    · rw [if_neg h]; intro c hc
      rcases List.mem_cons.1 hc with rfl | hc
      · exact h
      · exact ih c hc
theorem headP_split (l : List UInt8) (h : (headP l).length < l.length) : l = headP l ++ 47 :: l.drop ((headP l).length + 1) := by
  induction l with
  | nil => simp at h
  | cons c r ih =>
    rw [headP_cons] at h ⊢
    by_cases hc : c = 47
    · simp [hc]
    · rw [if_neg hc] at h ⊢
      have := ih (by simpa using h)
      rw [List.cons_append, List.length_cons, List.drop_succ_cons, ← this]
theorem headP_all (l : List UInt8) (h : (headP l).length = l.length) : headP l = l := by
  have := headP_take l; rw [h, List.take_length] at this; exact this.symm
theorem index_head (l : List UInt8) : Lib.indexByte l 47 = if (headP l).length = l.length then -1 else ((headP l).length : Int) := by
  induction l with
  | nil => rfl
  | cons c r ih =>
    rw [headP_cons, Lib.indexByte]
    by_cases h : c = 47
    · subst h; rfl
    · rw [if_neg (by simpa using h), ih, if_neg h]
      have := headP_len r
      by_cases hh : (headP r).length = r.length
      · simp [hh]
      · rw [if_neg hh, if_neg (by rw [beq_iff_eq]; omega), if_neg (by simp; omega)]; simp
theorem spl_head (l : List UInt8) (h : (headP l).length < l.length) : spl l = headP l :: spl (l.drop ((headP l).length + 1)) := by
  have := spl_append (headP l) (l.drop ((headP l).length + 1))
  rw [← headP_split l h, spl_one _ (headP_plain l)] at this
  exact this
theorem spl_last (l : List UInt8) (h : (headP l).length = l.length) : spl l = [l] := by
  rw [← headP_all l h]; exact spl_one _ (headP_plain l)
theorem nam_append (a b : List UInt8) : nam (a ++ 47 :: b) = nam a ++ nam b := by
  unfold nam; rw [spl_append, List.filter_append]
end Go.Proofs.YtjopmchbphjliaaGreatDoor
