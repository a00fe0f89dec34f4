/- Plain facts for the last two laws. -/
import Derived.Test.YtmjjhoaplcjjcaaM
import Derived.Test.YtmjjhoaplcjjcaaW11
namespace Go.Proofs.Ytmjjhoaplcjjcaa
open Go.RowKit

theorem mask_nat (m : Int) (k : Nat) (hk : k < 9223372036854775808) : ∃ n : Nat, n ≤ k ∧ bits .and .i64 m (k : Int) = (n : Int) :=
  ⟨_, Nat.and_le_right, and_mask m k hk⟩
theorem one_byte (wr : World) (x : Int) (c : UInt8) (hc : (c.toNat : Int) = x) :
    (convert 36 9 (.slice (some ⟨wr.heap.size, 0, none⟩) 1 1)).run Try.prog (wr.alloc (.cells #[.int .u8 x] 5)) = .ok (.string ⟨#[c]⟩) (wr.alloc (.cells #[.int .u8 x] 5)) := by
  subst hc
  refine run_convert_bytes_back _ 36 9 5 ⟨wr.heap.size, 0, none⟩ 1 [c] Try.underlying36 Try.underlying5 Try.underlying9 fun j hj => ?_
  obtain rfl : j = 0 := by simpa using hj
  simp [Addr.add]
def dg (n j : Nat) : UInt8 := UInt8.ofNat (48 + n / 8 ^ j % 8)
def digs (n : Nat) : List UInt8 := [dg n 4, dg n 3, dg n 2, dg n 1, dg n 0]
theorem dg_of (n j d : Nat) (hn : n < 4096) (hj : 8 ^ j = d) : ∃ e : Nat, e < 8 ∧ bits .and .i64 ((n : Int) / (d : Int)) 7 = (e : Int) ∧ ((dg n j).toNat : Int) = 48 + (e : Int) := by
  subst hj
  refine ⟨n / 8 ^ j % 8, Nat.mod_lt _ (by decide), ?_, ?_⟩
  · have l : n / 8 ^ j ≤ n := Nat.div_le_self _ _
    have e1 : (n : Int) / ((8 ^ j : Nat) : Int) = ((n / 8 ^ j : Nat) : Int) := by rw [Int.natCast_ediv]
    have a1 : bits .and .i64 ((n / 8 ^ j : Nat) : Int) 7 = ((n / 8 ^ j &&& 7 : Nat) : Int) := and_nat _ 7 (by omega) (by omega)
    rw [e1, a1, Nat.and_two_pow_sub_one_eq_mod (n / 8 ^ j) 3]
  · unfold dg
    rw [UInt8.toNat_ofNat', Nat.mod_eq_of_lt (by omega)]
    omega
theorem digs_nat : ∀ a : Fin 64, ∀ b : Fin 64, octN (digs (a.val * 64 + b.val)) 0 = some (a.val * 64 + b.val) := by decide +kernel
theorem digs_of (n : Nat) (hn : n < 4096) : octN (digs n) 0 = some n := by
  have := digs_nat ⟨n / 64, by omega⟩ ⟨n % 64, by omega⟩
  have e : n / 64 * 64 + n % 64 = n := by omega
  simpa only [e] using this
theorem octS_read (t : ByteArray) (n : Nat) (hn : n < 4096) (h : n &&& 3071 = n) (h1 : 1 ≤ t.size) (h5 : t.size ≤ 5) (ho : octN t.data.toList 0 = some n) : octS t.data.toList = some n := by
  rw [octS_of t (by omega) (by omega), ho, Option.filter_some, if_pos (right_of n hn h)]
theorem change_read (t : ByteArray) (n p : Nat) (hp : p < 4096) (hp2 : p &&& 3071 = p) (ho : octS t.data.toList = some n) : changeS t.data.toList (p : Int) false = some (n : Int) := by
  unfold changeS
  rw [if_pos (right_of p hp hp2), ho]
theorem oct_strip (t : ByteArray) (h : 0 < t.size) (hc : t[0] = 48) : octN (t.extract 1 t.size).data.toList 0 = octN t.data.toList 0 := by
  rw [data_cons t h, hc, octN, if_pos (by decide)]; rfl
theorem long_none (t : ByteArray) (h : 1 ≤ t.size) : octV (octS ((⟨#[48, 48, 48, 48, 48]⟩ : ByteArray) ++ t).data.toList) = .tuple #[.int .i64 0, .bool false] := by
  refine octS_none _ (Or.inr ?_)
  rw [ByteArray.size_append]
  show 5 < 5 + t.size
  omega
theorem app_one (t : ByteArray) (l : List UInt8) (c : UInt8) (h : t.data.toList = l) : (t ++ ⟨#[c]⟩).data.toList = l ++ [c] := by
  rw [ByteArray.data_append, Array.toList_append, h]
end Go.Proofs.Ytmjjhoaplcjjcaa
