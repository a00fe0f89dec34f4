/- A ring of bytes as a list: plain facts. -/
import Derived.Test.YthgjhpiajjamnaaRows
namespace Go.Proofs.Ythgjhpiajjamnaa
abbrev Bs := List UInt8
/-- the n bytes of a ring from place f on. -/
def ringL (r : Nat → UInt8) (f n : Nat) : Bs := (List.range n).map fun i => r ((f + i) % 128)
theorem ring_len (r : Nat → UInt8) (f n : Nat) : (ringL r f n).length = n := by simp [ringL]
theorem ring_get (r : Nat → UInt8) (f n : Nat) (i : Nat) (h : i < n) : (ringL r f n)[i]? = some (r ((f + i) % 128)) := by
  unfold ringL
  rw [List.getElem?_map, List.getElem?_range h]; rfl
/-- the ring behind both copies of a text. -/
def put1 (r : Nat → UInt8) (o : Nat) (l : Bs) (i : Nat) : UInt8 := if o ≤ i ∧ i < o + l.length then l[i - o]?.getD 0 else r i
def put2 (r : Nat → UInt8) (q : Nat) (l : Bs) : Nat → UInt8 := put1 (put1 r q (l.take (128 - q))) 0 (l.drop (128 - q))
theorem put1_in {r : Nat → UInt8} {o : Nat} {l : Bs} {i : Nat} (h1 : o ≤ i) (h2 : i < o + l.length) : put1 r o l i = l[i - o]?.getD 0 := if_pos ⟨h1, h2⟩
theorem put1_out {r : Nat → UInt8} {o : Nat} {l : Bs} {i : Nat} (h : i < o ∨ o + l.length ≤ i) : put1 r o l i = r i := if_neg (by omega)
theorem put2_at (r : Nat → UInt8) (f n : Nat) (l : Bs) (hn : n + l.length ≤ 128) (i : Nat) (hi : i < n + l.length) :
    put2 r ((f + n) % 128) l ((f + i) % 128) = if i < n then r ((f + i) % 128) else l[i - n]?.getD 0 := by
  unfold put2
  have hl1 : (l.take (128 - (f + n) % 128)).length = min (128 - (f + n) % 128) l.length := by simp
  have hl2 : (l.drop (128 - (f + n) % 128)).length = l.length - (128 - (f + n) % 128) := by simp
  by_cases h : i < n
  · rw [if_pos h]
    rw [put1_out (by rw [hl2]; omega), put1_out (by rw [hl1]; omega)]
  · rw [if_neg h]
    by_cases h2 : (f + i) % 128 < (f + n) % 128
    · rw [put1_in (by omega) (by rw [hl2]; omega), List.getElem?_drop]
      congr 2
      omega
    · rw [put1_out (by rw [hl2]; omega), put1_in (by omega) (by rw [hl1]; omega), List.getElem?_take_of_lt (by omega)]
      congr 2
      omega
theorem ring_put (r : Nat → UInt8) (f n : Nat) (l : Bs) (hn : n + l.length ≤ 128) :
    ringL (put2 r ((f + n) % 128) l) f (n + l.length) = ringL r f n ++ l := by
  apply List.ext_getElem?
  intro i
  by_cases hi : i < n + l.length
  · rw [ring_get _ _ _ _ hi, put2_at r f n l hn i hi]
    by_cases h : i < n
    · rw [if_pos h, List.getElem?_append_left (by rw [ring_len]; exact h), ring_get _ _ _ _ h]
    · rw [if_neg h, List.getElem?_append_right (by rw [ring_len]; omega), ring_len, List.getElem?_eq_getElem (by omega)]
      rfl
  · rw [List.getElem?_eq_none (by rw [ring_len]; omega), List.getElem?_eq_none (by rw [List.length_append, ring_len]; omega)]
theorem ring_take (r : Nat → UInt8) (f n k : Nat) (h : k ≤ n) : ringL r f k = (ringL r f n).take k := by
  apply List.ext_getElem?
  intro i
  rw [List.getElem?_take]
  by_cases hi : i < k
  · rw [if_pos hi, ring_get _ _ _ _ hi, ring_get _ _ _ _ (by omega)]
  · rw [if_neg hi, List.getElem?_eq_none (by rw [ring_len]; omega)]
theorem ring_drop (r : Nat → UInt8) (f n k : Nat) (h : k ≤ n) : ringL r ((f + k) % 128) (n - k) = (ringL r f n).drop k := by
  apply List.ext_getElem?
  intro i
  rw [List.getElem?_drop]
  by_cases hi : i < n - k
  · rw [ring_get _ _ _ _ hi, ring_get _ _ _ _ (by omega)]
    congr 2
    omega
  · rw [List.getElem?_eq_none (by rw [ring_len]; omega), List.getElem?_eq_none (by rw [ring_len]; omega)]
/-- the bytes read by two copies. -/
theorem ring_two (r : Nat → UInt8) (f k : Nat) (hf : f < 128) (hk : k ≤ 128) :
    ringL r f k = ((List.range (min k (128 - f))).map fun i => r (f + i)) ++ ((List.range (k - min k (128 - f))).map fun i => r i) := by
  apply List.ext_getElem?
  intro i
  by_cases hi : i < k
  · rw [ring_get _ _ _ _ hi]
    by_cases h : i < min k (128 - f)
    · rw [List.getElem?_append_left (by simpa using h), List.getElem?_map, List.getElem?_range h]
      simp only [Option.map_some]
      rw [Nat.mod_eq_of_lt (by omega)]
    · rw [List.getElem?_append_right (by simp; omega), List.getElem?_map, List.getElem?_range (by simp; omega)]
      simp only [Option.map_some, List.length_map, List.length_range]
      congr 2
      omega
  · rw [List.getElem?_eq_none (by rw [ring_len]; omega), List.getElem?_eq_none (by simp; omega)]
end Go.Proofs.Ythgjhpiajjamnaa
