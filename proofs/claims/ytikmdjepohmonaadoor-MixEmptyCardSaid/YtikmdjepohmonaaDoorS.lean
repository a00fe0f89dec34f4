/- What the functions of package mix give, as plain functions on lists of bytes and numbers: no program in sight. -/
import Derived.Lib.Bytealg
import Derived.Laws.BitsLemmas
import Derived.Laws.Bits64
namespace Go.Proofs.YtikmdjepohmonaaDoor
open Go

/-- one byte of the password. -/
def bstep (h : Int) (c : UInt8) : Int := IntKind.u64.wrap (bits BinOp.xor IntKind.u64 h (IntKind.u64.wrap (c.toNat : Int)) * 1099511628211)
def passS (l : List UInt8) (h : Int) : Int := l.foldl bstep h
def endS (y : Int) : Int := IntKind.u64.wrap (bits BinOp.xor IntKind.u64 y (y / 536870912) * 11400714819323198485)
def turnS (l : List UInt8) (h : Int) : Int := endS (passS l h)
def turnsS (l : List UInt8) : Nat → Int → Int
  | 0, h => h
  | n + 1, h => turnsS l n (turnS l h)
def saltS (salt : Int) : Int := bits BinOp.and IntKind.i64 salt 65535
def startS (salt : Int) : Int := bits BinOp.xor IntKind.u64 14695981039346656037 (IntKind.u64.wrap (saltS salt))
def mixS (salt : Int) (l : List UInt8) : Int := turnsS l 64 (startS salt)

/-- a digit to base sixteen. -/
def hexC (d : Nat) : UInt8 := if d < 10 then UInt8.ofNat (48 + d) else UInt8.ofNat (87 + d)
/-- so many of a number, to base sixteen. -/
def hexS (n : Nat) : Nat → List UInt8
  | 0 => []
  | k + 1 => hexS (n / 16) k ++ [hexC (n % 16)]
def fieldS (salt : Int) (l : List UInt8) : List UInt8 := hexS (saltS salt).toNat 4 ++ 36 :: hexS (mixS salt l).toNat 16

/-- a byte's number; none: it is no digit. -/
def digN (c : UInt8) : Option Nat :=
  if 48 ≤ c.toNat ∧ c.toNat ≤ 57 then some (c.toNat - 48) else if 97 ≤ c.toNat ∧ c.toNat ≤ 102 then some (c.toNat - 87) else none
def digB (c : UInt8) : Bool := (digN c).isSome
def digV (c : UInt8) : Nat := (digN c).getD 0
def valS (l : List UInt8) : Nat := l.foldl (fun n c => 16 * n + digV c) 0
/-- does a text look like a field? -/
def okAt (l : List UInt8) (j : Nat) : Bool := if j = 4 then l.getD j 0 == 36 else digB (l.getD j 0)
def formB (l : List UInt8) : Bool := l.length == 21 && (List.range 21).all (okAt l)
def digI (c : UInt8) : Int := if digB c = true then (digV c : Int) else -1
def rightS (l : List UInt8) : Bool := l == [] || (l == [42] || formB l)
def matchS (l p : List UInt8) : Bool :=
  if l = [] then p == [] else if formB l = true then fieldS (valS (l.take 4) : Nat) p == l else false

theorem wrap64_range (x : Int) : 0 ≤ IntKind.u64.wrap x ∧ IntKind.u64.wrap x < 18446744073709551616 := by
  rw [IntKind.wrap_u64]; omega
theorem mix_range (salt : Int) (l : List UInt8) : ∃ n : Nat, mixS salt l = (n : Int) ∧ n < 18446744073709551616 := by
  have h : ∀ k h, ∃ n : Nat, turnsS l (k + 1) h = (n : Int) ∧ n < 18446744073709551616 := by
    intro k
    induction k with
    | zero =>
      intro h
      have := wrap64_range (bits BinOp.xor IntKind.u64 (passS l h) (passS l h / 536870912) * 11400714819323198485)
      exact ⟨(turnS l h).toNat, by show turnS l h = _; unfold turnS endS; omega, by unfold turnS endS; omega⟩
    | succ k ih => intro h; exact ih (turnS l h)
  exact h 63 _

theorem toNat_ofInt (m : Int) : (BitVec.ofInt 64 m).toNat = (m % 18446744073709551616).toNat := by
  rw [BitVec.toNat_ofInt]; rfl
theorem salt_nat (salt : Int) : saltS salt = (((salt % 18446744073709551616).toNat % 65536 : Nat) : Int) := by
  have h : (salt % 18446744073709551616).toNat &&& 65535 = (salt % 18446744073709551616).toNat % 65536 := Nat.and_two_pow_sub_one_eq_mod _ 16
  show IntKind.i64.wrap ((BitVec.ofInt 64 salt &&& BitVec.ofInt 64 65535).toNat : Int) = _
  rw [BitVec.toNat_and, toNat_ofInt, toNat_ofInt]
  rw [show ((65535 : Int) % 18446744073709551616).toNat = 65535 from rfl, h]
  rw [IntKind.wrap_i64]; omega
theorem salt_range (salt : Int) : ∃ n : Nat, saltS salt = (n : Int) ∧ n < 65536 :=
  ⟨_, salt_nat salt, by omega⟩
theorem salt_id (n : Nat) (h : n < 65536) : saltS (n : Int) = n := by
  rw [salt_nat]; omega
theorem salt_salt (salt : Int) : saltS (saltS salt) = saltS salt := by
  obtain ⟨n, h, hn⟩ := salt_range salt
  rw [h, salt_id n hn]
theorem mix_salt (a b : Int) (l : List UInt8) (h : saltS a = saltS b) : mixS a l = mixS b l := by
  unfold mixS startS; rw [h]
theorem field_salt (a b : Int) (l : List UInt8) (h : saltS a = saltS b) : fieldS a l = fieldS b l := by
  unfold fieldS; rw [h, mix_salt a b l h]

theorem hex_len (k : Nat) : ∀ n, (hexS n k).length = k := by
  induction k with
  | zero => intro n; rfl
  | succ k ih => intro n; simp [hexS, ih]
theorem hexC_dig : ∀ d : Fin 16, digN (hexC d.val) = some d.val := by decide
theorem hex_dig (k : Nat) : ∀ n, (hexS n k).all digB = true := by
  induction k with
  | zero => intro n; rfl
  | succ k ih =>
    intro n
    have h : digN (hexC (n % 16)) = some (n % 16) := hexC_dig ⟨n % 16, by omega⟩
    simp [hexS, ih, digB, h]
theorem val_append (a : List UInt8) (c : UInt8) : valS (a ++ [c]) = 16 * valS a + digV c := by
  unfold valS; rw [List.foldl_append]; rfl
theorem val_hex (k : Nat) : ∀ n, n < 16 ^ k → valS (hexS n k) = n := by
  induction k with
  | zero => intro n h; simp at h; subst h; rfl
  | succ k ih =>
    intro n h
    have hd : digN (hexC (n % 16)) = some (n % 16) := hexC_dig ⟨n % 16, by omega⟩
    rw [Nat.pow_succ] at h
    rw [hexS, val_append, ih (n / 16) (by omega)]
    unfold digV
    rw [hd]
    show 16 * (n / 16) + n % 16 = n
    omega
theorem hex_inj (k n m : Nat) (hn : n < 16 ^ k) (hm : m < 16 ^ k) (h : hexS n k = hexS m k) : n = m := by
  rw [← val_hex k n hn, ← val_hex k m hm, h]
theorem field_len (salt : Int) (l : List UInt8) : (fieldS salt l).length = 21 := by
  unfold fieldS; simp [hex_len]
theorem field_take (salt : Int) (l : List UInt8) : (fieldS salt l).take 4 = hexS (saltS salt).toNat 4 := by
  unfold fieldS
  rw [List.take_append_of_le_length (by rw [hex_len]; exact Nat.le_refl _), List.take_of_length_le (by rw [hex_len]; exact Nat.le_refl _)]
theorem field_drop (salt : Int) (l : List UInt8) : (fieldS salt l).drop 5 = hexS (mixS salt l).toNat 16 := by
  unfold fieldS
  rw [List.drop_append, hex_len, List.drop_of_length_le (by rw [hex_len]; decide), List.nil_append]
  show List.drop 1 (36 :: hexS (mixS salt l).toNat 16) = _
  rw [List.drop_succ_cons, List.drop_zero]
theorem field_at4 (salt : Int) (l : List UInt8) : (fieldS salt l).getD 4 0 = 36 := by
  unfold fieldS
  rw [List.getD_eq_getElem?_getD, List.getElem?_append_right (by rw [hex_len]; exact Nat.le_refl _), hex_len]
  rfl
theorem form_iff (l : List UInt8) : formB l = true ↔ l.length = 21 ∧ ∀ j, j < 21 → okAt l j = true := by
  unfold formB
  rw [Bool.and_eq_true, beq_iff_eq, List.all_eq_true]
  simp only [List.mem_range]
theorem form_no (l : List UInt8) (j : Nat) (hj : j < 21) (h : okAt l j = false) : formB l = false := by
  rw [Bool.eq_false_iff]
  intro hf
  rw [(form_iff l).1 hf |>.2 j hj] at h
  cases h
theorem all_getD (l : List UInt8) (h : l.all digB = true) (j : Nat) (hj : j < l.length) : digB (l.getD j 0) = true := by
  rw [List.getD_eq_getElem?_getD, List.getElem?_eq_getElem hj]
  exact List.all_eq_true.1 h _ (List.getElem_mem hj)
theorem field_form (salt : Int) (l : List UInt8) : formB (fieldS salt l) = true := by
  rw [form_iff]
  refine ⟨field_len _ _, fun j hj => ?_⟩
  unfold okAt
  by_cases h : j = 4
  · subst h; rw [if_pos rfl, field_at4]; rfl
  · rw [if_neg h]
    by_cases h2 : j < 4
    · have := all_getD _ (hex_dig 4 (saltS salt).toNat) j (by rw [hex_len]; exact h2)
      unfold fieldS
      rw [List.getD_eq_getElem?_getD, List.getElem?_append_left (by rw [hex_len]; exact h2), ← List.getD_eq_getElem?_getD]
      exact this
    · have := all_getD _ (hex_dig 16 (mixS salt l).toNat) (j - 5) (by rw [hex_len]; omega)
      unfold fieldS
      rw [List.getD_eq_getElem?_getD, List.getElem?_append_right (by rw [hex_len]; omega), hex_len]
      rw [show j - 4 = (j - 5) + 1 from by omega, List.getElem?_cons_succ, ← List.getD_eq_getElem?_getD]
      exact this
theorem field_val (salt : Int) (l : List UInt8) : ((valS ((fieldS salt l).take 4) : Nat) : Int) = saltS salt := by
  obtain ⟨n, h, hn⟩ := salt_range salt
  rw [field_take, h, Int.toNat_natCast, val_hex 4 n (by omega)]
theorem field_right (salt : Int) (l : List UInt8) : rightS (fieldS salt l) = true := by
  unfold rightS; rw [field_form]; simp
theorem field_eq (a b : Int) (l p : List UInt8) : fieldS a l = fieldS b p ↔ saltS a = saltS b ∧ mixS a l = mixS b p := by
  constructor
  · intro h
    refine ⟨by rw [← field_val a l, ← field_val b p, h], ?_⟩
    have hd : hexS (mixS a l).toNat 16 = hexS (mixS b p).toNat 16 := by rw [← field_drop, ← field_drop, h]
    obtain ⟨n, hn, hn2⟩ := mix_range a l
    obtain ⟨m, hm, hm2⟩ := mix_range b p
    rw [hn, hm, Int.toNat_natCast, Int.toNat_natCast] at hd
    rw [hn, hm, hex_inj 16 n m (by omega) (by omega) hd]
  · rintro ⟨h1, h2⟩
    unfold fieldS; rw [h1, h2]
theorem match_field (salt : Int) (a b : List UInt8) : matchS (fieldS salt a) b = (mixS salt a == mixS salt b) := by
  have hne : fieldS salt a ≠ [] := by
    intro h; have := field_len salt a; rw [h] at this; simp at this
  unfold matchS
  rw [if_neg hne, if_pos (field_form _ _), field_val]
  rw [Bool.eq_iff_iff, beq_iff_eq, beq_iff_eq, field_eq, salt_salt]
  rw [mix_salt (saltS salt) salt b (salt_salt _)]
  exact ⟨fun h => h.2.symm, fun h => ⟨rfl, h.symm⟩⟩
theorem match_right (l p : List UInt8) (h : matchS l p = true) : rightS l = true := by
  unfold matchS at h
  unfold rightS
  by_cases h1 : l = []
  · rw [h1]; rfl
  · rw [if_neg h1] at h
    by_cases h2 : formB l = true
    · rw [h2]; simp
    · rw [if_neg h2] at h; cases h
theorem match_star (p : List UInt8) : matchS [42] p = false := rfl
theorem match_empty (p : List UInt8) : matchS [] p = (p == []) := rfl
theorem dig_lo (c : UInt8) (h : 48 ≤ c.toNat) (h2 : c.toNat ≤ 57) : digN c = some (c.toNat - 48) := by
  unfold digN; rw [if_pos ⟨h, h2⟩]
theorem dig_hi (c : UInt8) (h : 97 ≤ c.toNat) (h2 : c.toNat ≤ 102) : digN c = some (c.toNat - 87) := by
  unfold digN; rw [if_neg (by omega), if_pos ⟨h, h2⟩]
theorem dig_no (c : UInt8) (h : ¬ (48 ≤ c.toNat ∧ c.toNat ≤ 57)) (h2 : ¬ (97 ≤ c.toNat ∧ c.toNat ≤ 102)) : digN c = none := by
  unfold digN; rw [if_neg h, if_neg h2]
end Go.Proofs.YtikmdjepohmonaaDoor
