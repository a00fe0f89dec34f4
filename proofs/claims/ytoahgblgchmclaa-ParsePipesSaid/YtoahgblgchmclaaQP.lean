/- Commands in a row: the texts, what parseA answers. -/
import Derived.Test.YtoahgblgchmclaaPA
namespace Go.Proofs.Ytoahgblgchmclaa
set_option linter.unusedVariables false
set_option linter.unusedSimpArgs false
/-- commands in a row. -/
def pipeTl : Nat → Nat → Bs
  | _, 0 => []
  | i, k + 1 => (if 0 < i then [32, 124, 10] else []) ++ [99, UInt8.ofNat (48 + i % 10), 32, 120] ++ pipeTl (i + 1) k
def pipeT (n : Nat) (b : Bool) : Bs := (if b then [33, 32] else []) ++ pipeTl 0 n
def okC (n i : Nat) (m : Nd) : Bool := decide (m.kind = 1) && (decide (m.words.length = 2) && decide (m.words.headD [] = [99, UInt8.ofNat (48 + i % 10)]))
def idsT (n : Nat) : List Int := (List.range n).map fun i : Nat => (i : Int)
def okP (n : Nat) (b : Bool) : Bool :=
  let r := parseA (pipeT n b)
  decide (r.2.1 = 0) && (decide (r.2.2 = 0) && (decide (r.1.length = n + (if 1 < n then 1 else 0) + (if b then 1 else 0)) &&
    (((List.range n).all fun i => okC n i (r.1.getD i (nd 0 []))) &&
      ((decide (n ≤ 1) || (decide ((r.1.getD n (nd 0 [])).kind = 3) && (decide ((r.1.getD n (nd 0 [])).kids = idsT n)))) &&
        (decide ((r.1.getD (r.1.length - 1) (nd 0 [])).kind = 2) == b)))))
theorem pipe_0 : ((List.range 4).all fun k => okP (k + 1) true && okP (k + 1) false) = true := by kernel_rfl
theorem pipe_1 : ((List.range 4).all fun k => okP (k + 5) true && okP (k + 5) false) = true := by kernel_rfl
theorem pipe_2 : ((List.range 4).all fun k => okP (k + 9) true && okP (k + 9) false) = true := by kernel_rfl
theorem pipe_3 : ((List.range 4).all fun k => okP (k + 13) true && okP (k + 13) false) = true := by kernel_rfl
theorem pipe_4 : ((List.range 4).all fun k => okP (k + 17) true && okP (k + 17) false) = true := by kernel_rfl
theorem pipe_5 : ((List.range 4).all fun k => okP (k + 21) true && okP (k + 21) false) = true := by kernel_rfl
theorem pipe_6 : ((List.range 4).all fun k => okP (k + 25) true && okP (k + 25) false) = true := by kernel_rfl
theorem pipe_7 : ((List.range 4).all fun k => okP (k + 29) true && okP (k + 29) false) = true := by kernel_rfl
theorem pipe_ok (b : Bool) (n : Nat) (h1 : 0 < n) (hn : n ≤ 32) : okP n b = true := by
  have key : ∀ o, ((List.range 4).all fun k => okP (k + o) true && okP (k + o) false) = true → o ≤ n → n < o + 4 → okP n b = true := by
    intro o h h1 h2
    have := List.all_eq_true.1 h (n - o) (List.mem_range.2 (by omega))
    rw [Bool.and_eq_true, Nat.sub_add_cancel h1] at this
    cases b
    · exact this.2
    · exact this.1
  by_cases h0 : n < 5
  · exact key 1 pipe_0 (by omega) (by omega)
  by_cases h1 : n < 9
  · exact key 5 pipe_1 (by omega) (by omega)
  by_cases h2 : n < 13
  · exact key 9 pipe_2 (by omega) (by omega)
  by_cases h3 : n < 17
  · exact key 13 pipe_3 (by omega) (by omega)
  by_cases h4 : n < 21
  · exact key 17 pipe_4 (by omega) (by omega)
  by_cases h5 : n < 25
  · exact key 21 pipe_5 (by omega) (by omega)
  by_cases h6 : n < 29
  · exact key 25 pipe_6 (by omega) (by omega)
  by_cases h7 : n < 33
  · exact key 29 pipe_7 (by omega) (by omega)
  omega
end Go.Proofs.Ytoahgblgchmclaa
