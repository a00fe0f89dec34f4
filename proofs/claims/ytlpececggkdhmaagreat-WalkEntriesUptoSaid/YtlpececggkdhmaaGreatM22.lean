import Derived.Lib.Bytealg
import Derived.Lib.TrimByte
import Derived.Laws.BitsLemmas
import Derived.Test.YtlpececggkdhmaaGreatProg
import Derived.WalkKit
import Derived.WalkSpells
import Derived.WalkLawsBesides
import Derived.Laws.BitsAllLaws
import Derived.Deep.QuietTactic
import Derived.BigQuiet
import Derived.Lib.Hide
open Go.Lib (hid)
set_option linter.unusedVariables false
set_option linter.unusedSimpArgs false
namespace Go.Proofs.YtlpececggkdhmaaGreat.Pa
open Go
def spl : List UInt8 → List (List UInt8)
 | [] => [[]]
 | c :: r => if c = 47 then [] :: spl r else
  match spl r with
  | [] => [[c]]
  | p :: ps => (c :: p) :: ps
def headP (l : List UInt8) : List UInt8 := l.takeWhile (· != 47)
def glue (x : List UInt8) : List (List UInt8) → List (List UInt8)
 | [] => [x]
 | p :: ps => (x ++ p) :: ps
def keepN (p : List UInt8) : Bool := p != [] && p != [46]
def nam (l : List UInt8) : List (List UInt8) := (spl l).filter keepN
def badC (c : UInt8) : Bool := decide (c.toNat < 32) || c.toNat == 127
def anyBad (l : List UInt8) : Bool := l.any badC
def longN (p : List UInt8) : Bool := decide (14 < p.length)
def anyLong (l : List UInt8) : Bool := (spl l).any longN
def splE (l : List UInt8) : Nat :=
 if l = [] then 3 else if 128 < l.length then 10 else if anyLong l = true then 10 else if anyBad l = true then 1 else 0
def lastP (l : List UInt8) : List UInt8 := (spl l).getLastD []
def dirP (l : List UInt8) : Bool := lastP l == [] || (lastP l == [46] || lastP l == [46, 46])
def absP (l : List UInt8) : Bool := l.head? == some 47
def splAbs (l : List UInt8) : Bool := if splE l = 0 then absP l else false
def splDir (l : List UInt8) : Bool := if splE l = 0 then dirP l else false
def splN (l : List UInt8) : List (List UInt8) := if splE l = 0 then nam l else []
def nameB (l : List UInt8) : Bool := decide (1 ≤ l.length) && decide (l.length ≤ 14) && l != [46] && l != [46, 46] && !anyBad l && !l.contains 47
def joinS (a b : List UInt8) : List UInt8 := if a = [] then b else if a.getLast? = some 47 then a ++ b else a ++ 47 :: b
def trimS (l : List UInt8) : List UInt8 := Lib.trimRightB l 47
def tailS (l : List UInt8) : List UInt8 := (l.reverse.takeWhile (· != 47)).reverse
def upS (l : List UInt8) : List UInt8 := (l.reverse.dropWhile (· != 47)).reverse
def baseS (l : List UInt8) : List UInt8 × List UInt8 := if trimS l = [] then (l, []) else (upS (trimS l), tailS (trimS l))
theorem spl_ne (l : List UInt8) : spl l ≠ [] := by
 cases l with
 | nil => simp [spl]
 | cons c r =>
  unfold spl
  by_cases h : c = 47
  ·rw [if_pos h]; simp
  ·rw [if_neg h]; split <;> simp
theorem spl_cons (c : UInt8) (r : List UInt8) (h : c ≠ 47) : spl (c :: r) = glue [c] (spl r) := by
 rw [spl, if_neg h]
 cases spl r <;> rfl
theorem spl_sep (r : List UInt8) : spl (47 :: r) = [] :: spl r := by rw [spl, if_pos rfl]
theorem glue_glue (x y : List UInt8) (ps : List (List UInt8)) : glue x (glue y ps) = glue (x ++ y) ps := by
 cases ps <;> simp [glue]
theorem glue_nil (ps : List (List UInt8)) (h : ps ≠ []) : glue [] ps = ps := by
 cases ps with
 | nil => exact absurd rfl h
 | cons p ps => rfl
theorem spl_plain (a b : List UInt8) (h : ∀ c ∈ a, c ≠ 47) : spl (a ++ b) = glue a (spl b) := by
 induction a with
 | nil => exact (glue_nil _ (spl_ne _)).symm
 | cons c r ih =>
  rw [List.cons_append, spl_cons _ _ (h c (by simp)), ih (fun x hx => h x (by simp [hx])), glue_glue]; rfl
theorem spl_append (a b : List UInt8) : spl (a ++ 47 :: b) = spl a ++ spl b := by
 induction a with
 | nil => exact spl_sep b
 | cons c r ih =>
  by_cases h : c = 47
  ·subst h; rw [List.cons_append, spl_sep, spl_sep, ih]; rfl
  ·rw [List.cons_append, spl_cons _ _ h, spl_cons _ _ h, ih]
   cases hr : spl r with
   | nil => exact absurd hr (spl_ne r)
   | cons p ps => rfl
theorem spl_one (a : List UInt8) (h : ∀ c ∈ a, c ≠ 47) : spl a = [a] := by
 have := spl_plain a [] h
 rw [List.append_nil] at this
 rw [this]; simp [spl, glue]
theorem headP_cons (c : UInt8) (r : List UInt8) : headP (c :: r) = if c = 47 then [] else c :: headP r := by
 unfold headP
 rw [List.takeWhile_cons]
 by_cases h : c = 47 <;> simp [h]
theorem headP_len (l : List UInt8) : (headP l).length ≤ l.length := by
 induction l with
 | nil => exact Nat.le_refl _
 | cons c r ih =>
  rw [headP_cons]
  by_cases h : c = 47
  ·simp [h]
  ·simp [h, ih]
theorem headP_take (l : List UInt8) : l.take (headP l).length = headP l := by
 induction l with
 | nil => rfl
 | cons c r ih =>
  rw [headP_cons]
  by_cases h : c = 47
  ·simp [h]
  ·simp [h, ih]
theorem headP_plain (l : List UInt8) : ∀ c ∈ headP l, c ≠ 47 := by
 induction l with
 | nil => intro c hc; cases hc
 | cons x r ih =>
  rw [headP_cons]
  by_cases h : x = 47
  ·rw [if_pos h]; intro c hc; cases hc
  ·rw [if_neg h]; intro c hc
   rcases List.mem_cons.1 hc with rfl | hc
   ·exact h
   ·exact ih c hc
theorem headP_split (l : List UInt8) (h : (headP l).length < l.length) : l = headP l ++ 47 :: l.drop ((headP l).length + 1) := by
 induction l with
 | nil => simp at h
 | cons c r ih =>
  rw [headP_cons] at h ⊢
  by_cases hc : c = 47
  ·simp [hc]
  ·rw [if_neg hc] at h ⊢
   have := ih (by simpa using h)
   rw [List.cons_append, List.length_cons, List.drop_succ_cons, ← this]
theorem headP_all (l : List UInt8) (h : (headP l).length = l.length) : headP l = l := by
 have := headP_take l; rw [h, List.take_length] at this; exact this.symm
theorem index_head (l : List UInt8) : Lib.indexByte l 47 = if (headP l).length = l.length then -1 else ((headP l).length : Int) := by
 induction l with
 | nil => rfl
 | cons c r ih =>
  rw [headP_cons, Lib.indexByte]
  by_cases h : c = 47
  ·subst h; rfl
  ·rw [if_neg (by simpa using h), ih, if_neg h]
   have := headP_len r
   by_cases hh : (headP r).length = r.length
   ·simp [hh]
   ·rw [if_neg hh, if_neg (by rw [beq_iff_eq]; omega), if_neg (by simp; omega)]; simp
theorem spl_head (l : List UInt8) (h : (headP l).length < l.length) : spl l = headP l :: spl (l.drop ((headP l).length + 1)) := by
 have := spl_append (headP l) (l.drop ((headP l).length + 1))
 rw [← headP_split l h, spl_one _ (headP_plain l)] at this
 exact this
theorem spl_last (l : List UInt8) (h : (headP l).length = l.length) : spl l = [l] := by
 rw [← headP_all l h]; exact spl_one _ (headP_plain l)
theorem nam_append (a b : List UInt8) : nam (a ++ 47 :: b) = nam a ++ nam b := by
 unfold nam; rw [spl_append, List.filter_append]
end Go.Proofs.YtlpececggkdhmaaGreat.Pa
namespace Go.Proofs.YtlpececggkdhmaaGreat.Mo
open Go
def wfI (m : Int) : Prop := -9223372036854775808 ≤ m ∧ m ≤ 9223372036854775807
theorem wrap_zero (n : Nat) (h : n < 18446744073709551616) : IntKind.i64.wrap (n : Int) = 0 ↔ n = 0 := by
 rw [IntKind.wrap_i64]; omega
theorem and_nat (a b : Nat) (ha : a < 9223372036854775808) (hb : b < 9223372036854775808) : bits .and .i64 (a : Int) (b : Int) = ((a &&& b : Nat) : Int) :=
 (bits_nat .i64 63 (by decide) (fun n h0 h1 => by rw [IntKind.wrap_i64]; omega) a b ha hb).1
theorem toNat_ofInt (m : Int) : (BitVec.ofInt 64 m).toNat = (m % 18446744073709551616).toNat := by
 rw [BitVec.toNat_ofInt]; rfl
theorem compl_and (u : Nat) (h : u < 18446744073709551616) (hz : u &&& 18446744073709548544 = 0) : u &&& 3071 = u := by
 have e : u &&& 18446744073709551615 = u := by
  have := Nat.and_two_pow_sub_one_eq_mod u 64
  rw [Nat.mod_eq_of_lt h] at this
  exact this
 have e2 : (18446744073709551615 : Nat) = 18446744073709548544 ||| 3071 := by decide
 rw [e2, Nat.and_or_distrib_left, hz, Nat.zero_or] at e
 exact e
theorem andNot_toNat (m : Int) : (BitVec.ofInt 64 m &&& ~~~ BitVec.ofInt 64 3071).toNat = (m % 18446744073709551616).toNat &&& 18446744073709548544 := by
 rw [BitVec.toNat_and, toNat_ofInt]; rfl
theorem andNot_zero (m : Int) (hm : wfI m) : (bits .andNot .i64 m 3071 == 0) = true ↔ ∃ n : Nat, n < 4096 ∧ m = n ∧ n &&& 3071 = n := by
 have hu : (m % 18446744073709551616).toNat < 18446744073709551616 := by omega
 have hle : (m % 18446744073709551616).toNat &&& 18446744073709548544 ≤ (m % 18446744073709551616).toNat := Nat.and_le_left
 have e : (bits .andNot .i64 m 3071 == 0) = true ↔ (m % 18446744073709551616).toNat &&& 18446744073709548544 = 0 := by
  rw [beq_iff_eq]
  show IntKind.i64.wrap ((BitVec.ofInt 64 m &&& ~~~ BitVec.ofInt 64 3071).toNat : Int) = 0 ↔ _
  rw [andNot_toNat, wrap_zero _ (by omega)]
 rw [e]
 unfold wfI at hm
 constructor
 ·intro hz
  have h := compl_and _ hu hz
  have h3 : (m % 18446744073709551616).toNat &&& 3071 ≤ 3071 := Nat.and_le_right
  rw [h] at h3
  exact ⟨(m % 18446744073709551616).toNat, by omega, by omega, h⟩
 ·rintro ⟨n, hn, rfl, h⟩
  have e : ((n : Int) % 18446744073709551616).toNat = n := by omega
  rw [e, ← h, Nat.and_assoc]
  have : 3071 &&& 18446744073709548544 = 0 := by decide
  rw [this, Nat.and_zero]
theorem andNot_nat (a b : Nat) (ha : a < 9223372036854775808) (hb : b < 9223372036854775808) : bits .andNot .i64 (a : Int) (b : Int) = ((a &&& (18446744073709551615 - b) : Nat) : Int) := by
 show IntKind.i64.wrap ((BitVec.ofInt 64 (a : Int) &&& ~~~ BitVec.ofInt 64 (b : Int)).toNat : Int) = _
 have h : (~~~ BitVec.ofInt 64 (b : Int)).toNat = 18446744073709551615 - b := by
  rw [BitVec.toNat_not, toNat_ofInt, show ((b : Int) % 18446744073709551616).toNat = b from by omega]
 rw [BitVec.toNat_and, toNat_ofInt, h, show ((a : Int) % 18446744073709551616).toNat = a from by omega]
 have h : a &&& (18446744073709551615 - b) ≤ a := Nat.and_le_left
 rw [IntKind.wrap_i64]; omega
theorem grant_nat : ∀ a : Fin 64, ∀ b : Fin 64, ∀ v : Fin 8, ((v.val &&& (18446744073709551615 - (a.val * 64 + b.val))) == 0) = (((a.val * 64 + b.val) &&& 7) &&& v.val == v.val) := by
 decide +kernel
theorem cast_beq (a b : Nat) : (((a : Int) == (b : Int)) : Bool) = (a == b) := by
 rw [Bool.eq_iff_iff, beq_iff_eq, beq_iff_eq]; omega
theorem grant_eq (g v : Nat) (hg : g < 4096) (hv : v < 8) : (bits .andNot .i64 (v : Int) (g : Int) == 0) = (bits .and .i64 (bits .and .i64 (g : Int) 7) v == v) := by
 have h := grant_nat ⟨g / 64, by omega⟩ ⟨g % 64, by omega⟩ ⟨v, hv⟩
 have e : g / 64 * 64 + g % 64 = g := by omega
 simp only [e] at h
 have h7 : bits .and .i64 (g : Int) 7 = ((g &&& 7 : Nat) : Int) := and_nat g 7 (by omega) (by omega)
 have : g &&& 7 ≤ 7 := Nat.and_le_right
 rw [andNot_nat _ _ (by omega) (by omega), h7, and_nat _ _ (by omega) (by omega), cast_beq, ← h]
 exact cast_beq _ 0
end Go.Proofs.YtlpececggkdhmaaGreat.Mo
namespace Go.Proofs.YtlpececggkdhmaaGreat.Mo
open Go.RowKit
def rightB (m : Int) : Bool := bits .andNot .i64 m 3071 == 0
theorem ret_bool {a b : Bool} (h : a = b) : Ending.returned (.bool a) = .returned (.bool b) := by rw [h]
theorem right_any (m : Int) (w : World) :
 Calls Tryz.prog 79 #[.int .i64 m] w fun e w' => e = .returned (.bool (rightB m)) ∧ w = w' := by
 go_enter Tryz.func79, Tryz.ntmps79
 go_wp2
 go_ret
 exact ⟨rfl, rfl⟩
def mayB (m owner group : Int) (dir : Bool) (uid gid want : Int) : Bool :=
 if rightB m = true ∧ 1 ≤ want ∧ want ≤ 7 then
  if uid = 0 then (bits .and .i64 want 1 == 0 || (dir || bits .and .i64 m 73 != 0))
  else (bits .andNot .i64 want (if uid = owner then m / 64 else if gid = group then m / 8 else m) == 0)
 else false
set_option maxHeartbeats 1000000 in
theorem may_any (m owner group : Int) (dir : Bool) (uid gid want : Int) (w : World) :
 Calls Tryz.prog 58 #[.int .i64 m, .int .i64 owner, .int .i64 group, .bool dir, .int .i64 uid, .int .i64 gid, .int .i64 want] w fun e w' => e = .returned (.bool (mayB m owner group dir uid gid want)) ∧ w = w' := by
 by_cases hr : rightB m = true
 ·by_cases h1 : want < 1
  ·go_enter Tryz.func58, Tryz.ntmps58
   go_wp2_with (go_at_call 79; refine (right_any _ _).mono ?_; rintro e w' ⟨rfl, rfl⟩)
   go_ret
   exact ⟨ret_bool (by unfold mayB; rw [if_neg (by omega)]), rfl⟩
  by_cases h7 : 7 < want
  ·go_enter Tryz.func58, Tryz.ntmps58
   go_wp2_with (go_at_call 79; refine (right_any _ _).mono ?_; rintro e w' ⟨rfl, rfl⟩)
   go_ret
   exact ⟨ret_bool (by unfold mayB; rw [if_neg (by omega)]), rfl⟩
  by_cases h0 : uid = 0
  ·have h0' : ((uid : Int) == 0) = true := by simpa using h0
   have H0 := hid h0; clear h0
   have e : mayB m owner group dir uid gid want = (bits .and .i64 want 1 == 0 || (dir || bits .and .i64 m 73 != 0)) := by unfold mayB; rw [if_pos ⟨hr, by omega, by omega⟩, if_pos H0.out]
   have He := hid e; clear e
   cases ha : (bits .and .i64 want 1 == 0)
   ·cases dir
    ·go_enter Tryz.func58, Tryz.ntmps58
     go_wp2_with (go_at_call 79; refine (right_any _ _).mono ?_; rintro e w' ⟨rfl, rfl⟩)
     go_ret
     exact ⟨ret_bool (by rw [He.out, ha]; rfl), rfl⟩
    ·go_enter Tryz.func58, Tryz.ntmps58
     go_wp2_with (go_at_call 79; refine (right_any _ _).mono ?_; rintro e w' ⟨rfl, rfl⟩)
     go_ret
     exact ⟨ret_bool (by rw [He.out, ha]; rfl), rfl⟩
   ·go_enter Tryz.func58, Tryz.ntmps58
    go_wp2_with (go_at_call 79; refine (right_any _ _).mono ?_; rintro e w' ⟨rfl, rfl⟩)
    go_ret
    exact ⟨ret_bool (by rw [He.out, ha]; rfl), rfl⟩
  have h0' : ((uid : Int) == 0) = false := by simpa using h0
  have e : mayB m owner group dir uid gid want = (bits .andNot .i64 want (if uid = owner then m / 64 else if gid = group then m / 8 else m) == 0) := by unfold mayB; rw [if_pos ⟨hr, by omega, by omega⟩, if_neg h0]
  have He := hid e; clear e h0
  by_cases ho : uid = owner
  ·have ho' : ((uid : Int) == owner) = true := by simpa using ho
   have Ho := hid ho; clear ho
   go_enter Tryz.func58, Tryz.ntmps58
   go_wp2_with (go_at_call 79; refine (right_any _ _).mono ?_; rintro e w' ⟨rfl, rfl⟩)
   go_ret
   exact ⟨ret_bool (by rw [He.out, if_pos Ho.out]), rfl⟩
  have ho' : ((uid : Int) == owner) = false := by simpa using ho
  have Ho := hid ho; clear ho
  by_cases hg : gid = group
  ·have hg' : ((gid : Int) == group) = true := by simpa using hg
   have Hg := hid hg; clear hg
   go_enter Tryz.func58, Tryz.ntmps58
   go_wp2_with (go_at_call 79; refine (right_any _ _).mono ?_; rintro e w' ⟨rfl, rfl⟩)
   go_ret
   exact ⟨ret_bool (by rw [He.out, if_neg Ho.out, if_pos Hg.out]), rfl⟩
  have hg' : ((gid : Int) == group) = false := by simpa using hg
  have Hg := hid hg; clear hg
  go_enter Tryz.func58, Tryz.ntmps58
  go_wp2_with (go_at_call 79; refine (right_any _ _).mono ?_; rintro e w' ⟨rfl, rfl⟩)
  go_ret
  exact ⟨ret_bool (by rw [He.out, if_neg Ho.out, if_neg Hg.out]), rfl⟩
 ·have hr' : rightB m = false := by simpa using hr
  go_enter Tryz.func58, Tryz.ntmps58
  go_wp2_with (go_at_call 79; refine (right_any _ _).mono ?_; rintro e w' ⟨rfl, rfl⟩)
  go_ret
  exact ⟨ret_bool (by unfold mayB; rw [if_neg (fun h => hr h.1)]), rfl⟩
end Go.Proofs.YtlpececggkdhmaaGreat.Mo
