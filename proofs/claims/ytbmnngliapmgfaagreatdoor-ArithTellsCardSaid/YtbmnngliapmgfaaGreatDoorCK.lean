/- The document's reader: reckon. -/
import Derived.Test.YtbmnngliapmgfaaGreatDoorCD
import Derived.Test.YtbmnngliapmgfaaGreatDoorBC
import Derived.Test.YtbmnngliapmgfaaGreatDoorAR
namespace Go.Proofs.YtbmnngliapmgfaaGreatDoor
open Go.RowKit
set_option linter.unusedVariables false
set_option linter.unusedSimpArgs false
theorem low6_r (k : Int) (hk : I64 k) : bits .and .i64 k 63 = low6 k ∧ 0 ≤ low6 k ∧ low6 k ≤ 63 := by
  have h1 := BitVec.toNat_and (bv k) (bv 63)
  have h2 : (bv k &&& bv 63).toNat ≤ 63 := by
    rw [h1, show (bv 63).toNat = 63 from by decide +kernel]; exact Nat.and_le_right
  have e : low6 k = ((bv k &&& bv 63).toNat : Int) := by
    show IntKind.u64.wrap ((BitVec.ofInt 64 (IntKind.u64.wrap k) &&& BitVec.ofInt 64 63).toNat : Int) = _
    have : BitVec.ofInt 64 (IntKind.u64.wrap k) = bv k := by
      apply BitVec.eq_of_toNat_eq
      unfold bv
      rw [BitVec.toNat_ofInt, BitVec.toNat_ofInt, u64_wrap]
      congr 1; omega
    rw [this, u64_wrap, show BitVec.ofInt 64 63 = bv 63 from rfl]
    omega
  have e2 : bits .and .i64 k 63 = ((bv k &&& bv 63).toNat : Int) := by
    rw [bits_and, ← wrap_bv, IntKind.wrap_i64]
    omega
  exact ⟨by rw [e2, e], by omega, by omega⟩
/-- the error behind a step that may tell one. -/
def bumpE (err : Int) (c : Bool) (e : Int) : Int := if e ≠ 0 ∧ c = true ∧ err = 0 then e else err
theorem bumpE_0 (err : Int) (c : Bool) : bumpE err c 0 = err := if_neg (fun h => h.1 rfl)
def rkPost (W : World) (p : Nat) (s : ByteArray) (k d : Nat) (gv sv : Value) (form : Bool) (err : Int) (c : Bool) (r : Int × Int) (e : Ending) (w' : World) : Prop :=
  e = .returned (.int .i64 r.1) ∧ RD w' p s k d gv sv form (bumpE err c r.2) ∧ Fr (· = p) W w'
theorem rk_same {W w' : World} {p : Nat} {s : ByteArray} {k d : Nat} {gv sv : Value} {form : Bool} {err : Int} {c : Bool} {v : Int} (h : RD w' p s k d gv sv form err) (f : Fr (· = p) W w') : rkPost W p s k d gv sv form err c (v, 0) (.returned (.int .i64 v)) w' :=
  ⟨rfl, by rw [bumpE_0]; exact h, f⟩
set_option maxHeartbeats 2000000 in
theorem rk_or (W : World) (p : Nat) (s : ByteArray) (k d : Nat) (gv sv : Value) (form : Bool) (err : Int) (a b : Int) (c : Bool) (ha : I64 a) (hb : I64 b) (h : RD W p s k d gv sv form err) :
    Calls Tryz.prog 16 #[.pointer (some ⟨p, 0, none⟩), .string (st [124]), .int .i64 a, .int .i64 b, .bool c] W (rkPost W p s k d gv sv form err c (opI [124] a b)) := by
  have H := Lib.hid h
  have g0 : ((st [124]).toList == [124]) = true := by rw [st_eq]; decide
  rw [show opI [124] a b = (bits .or .i64 a b, 0) from rfl]
  generalize st [124] = x at *
  clear h
  go_enter Tryz.func16, Tryz.ntmps16
  go_wp2
  go_ret
  exact rk_same H.out (Fr.refl _ _)
set_option maxHeartbeats 2000000 in
theorem rk_xor (W : World) (p : Nat) (s : ByteArray) (k d : Nat) (gv sv : Value) (form : Bool) (err : Int) (a b : Int) (c : Bool) (ha : I64 a) (hb : I64 b) (h : RD W p s k d gv sv form err) :
    Calls Tryz.prog 16 #[.pointer (some ⟨p, 0, none⟩), .string (st [94]), .int .i64 a, .int .i64 b, .bool c] W (rkPost W p s k d gv sv form err c (opI [94] a b)) := by
  have H := Lib.hid h
  have g0 : ((st [94]).toList == [124]) = false := by rw [st_eq]; decide
  have g1 : ((st [94]).toList == [94]) = true := by rw [st_eq]; decide
  rw [show opI [94] a b = (bits .xor .i64 a b, 0) from rfl]
  generalize st [94] = x at *
  clear h
  go_enter Tryz.func16, Tryz.ntmps16
  go_wp2
  go_ret
  exact rk_same H.out (Fr.refl _ _)
set_option maxHeartbeats 2000000 in
theorem rk_and (W : World) (p : Nat) (s : ByteArray) (k d : Nat) (gv sv : Value) (form : Bool) (err : Int) (a b : Int) (c : Bool) (ha : I64 a) (hb : I64 b) (h : RD W p s k d gv sv form err) :
    Calls Tryz.prog 16 #[.pointer (some ⟨p, 0, none⟩), .string (st [38]), .int .i64 a, .int .i64 b, .bool c] W (rkPost W p s k d gv sv form err c (opI [38] a b)) := by
  have H := Lib.hid h
  have g0 : ((st [38]).toList == [124]) = false := by rw [st_eq]; decide
  have g1 : ((st [38]).toList == [94]) = false := by rw [st_eq]; decide
  have g2 : ((st [38]).toList == [38]) = true := by rw [st_eq]; decide
  rw [show opI [38] a b = (bits .and .i64 a b, 0) from rfl]
  generalize st [38] = x at *
  clear h
  go_enter Tryz.func16, Tryz.ntmps16
  go_wp2
  go_ret
  exact rk_same H.out (Fr.refl _ _)
set_option maxHeartbeats 2000000 in
theorem rk_eq (W : World) (p : Nat) (s : ByteArray) (k d : Nat) (gv sv : Value) (form : Bool) (err : Int) (a b : Int) (c : Bool) (ha : I64 a) (hb : I64 b) (h : RD W p s k d gv sv form err) :
    Calls Tryz.prog 16 #[.pointer (some ⟨p, 0, none⟩), .string (st [61, 61]), .int .i64 a, .int .i64 b, .bool c] W (rkPost W p s k d gv sv form err c (opI [61, 61] a b)) := by
  have H := Lib.hid h
  have g0 : ((st [61, 61]).toList == [124]) = false := by rw [st_eq]; decide
  have g1 : ((st [61, 61]).toList == [94]) = false := by rw [st_eq]; decide
  have g2 : ((st [61, 61]).toList == [38]) = false := by rw [st_eq]; decide
  have g3 : ((st [61, 61]).toList == [61, 61]) = true := by rw [st_eq]; decide
  rw [show opI [61, 61] a b = (truth (a == b), 0) from rfl]
  have HT := Lib.hid (rtruth_any (a == b))
  generalize st [61, 61] = x at *
  clear h
  go_enter Tryz.func16, Tryz.ntmps16
  go_wp2_with (go_at_call 25; (with_reducible refine (HT.out _).mono ?_); rintro e w' ⟨rfl, rfl⟩)
  go_ret
  exact rk_same H.out (Fr.refl _ _)
set_option maxHeartbeats 2000000 in
theorem rk_ne (W : World) (p : Nat) (s : ByteArray) (k d : Nat) (gv sv : Value) (form : Bool) (err : Int) (a b : Int) (c : Bool) (ha : I64 a) (hb : I64 b) (h : RD W p s k d gv sv form err) :
    Calls Tryz.prog 16 #[.pointer (some ⟨p, 0, none⟩), .string (st [33, 61]), .int .i64 a, .int .i64 b, .bool c] W (rkPost W p s k d gv sv form err c (opI [33, 61] a b)) := by
  have H := Lib.hid h
  have g0 : ((st [33, 61]).toList == [124]) = false := by rw [st_eq]; decide
  have g1 : ((st [33, 61]).toList == [94]) = false := by rw [st_eq]; decide
  have g2 : ((st [33, 61]).toList == [38]) = false := by rw [st_eq]; decide
  have g3 : ((st [33, 61]).toList == [61, 61]) = false := by rw [st_eq]; decide
  have g4 : ((st [33, 61]).toList == [33, 61]) = true := by rw [st_eq]; decide
  rw [show opI [33, 61] a b = (truth (a != b), 0) from rfl]
  have HT := Lib.hid (rtruth_any (a != b))
  generalize st [33, 61] = x at *
  clear h
  go_enter Tryz.func16, Tryz.ntmps16
  go_wp2_with (go_at_call 25; (with_reducible refine (HT.out _).mono ?_); rintro e w' ⟨rfl, rfl⟩)
  go_ret
  exact rk_same H.out (Fr.refl _ _)
set_option maxHeartbeats 2000000 in
theorem rk_lt (W : World) (p : Nat) (s : ByteArray) (k d : Nat) (gv sv : Value) (form : Bool) (err : Int) (a b : Int) (c : Bool) (ha : I64 a) (hb : I64 b) (h : RD W p s k d gv sv form err) :
    Calls Tryz.prog 16 #[.pointer (some ⟨p, 0, none⟩), .string (st [60]), .int .i64 a, .int .i64 b, .bool c] W (rkPost W p s k d gv sv form err c (opI [60] a b)) := by
  have H := Lib.hid h
  have g0 : ((st [60]).toList == [124]) = false := by rw [st_eq]; decide
  have g1 : ((st [60]).toList == [94]) = false := by rw [st_eq]; decide
  have g2 : ((st [60]).toList == [38]) = false := by rw [st_eq]; decide
  have g3 : ((st [60]).toList == [61, 61]) = false := by rw [st_eq]; decide
  have g4 : ((st [60]).toList == [33, 61]) = false := by rw [st_eq]; decide
  have g5 : ((st [60]).toList == [60]) = true := by rw [st_eq]; decide
  rw [show opI [60] a b = (truth (decide (a < b)), 0) from rfl]
  have HT := Lib.hid (rtruth_any (decide (a < b)))
  generalize st [60] = x at *
  clear h
  go_enter Tryz.func16, Tryz.ntmps16
  go_wp2_with (go_at_call 25; (with_reducible refine (HT.out _).mono ?_); rintro e w' ⟨rfl, rfl⟩)
  go_ret
  exact rk_same H.out (Fr.refl _ _)
set_option maxHeartbeats 2000000 in
theorem rk_le (W : World) (p : Nat) (s : ByteArray) (k d : Nat) (gv sv : Value) (form : Bool) (err : Int) (a b : Int) (c : Bool) (ha : I64 a) (hb : I64 b) (h : RD W p s k d gv sv form err) :
    Calls Tryz.prog 16 #[.pointer (some ⟨p, 0, none⟩), .string (st [60, 61]), .int .i64 a, .int .i64 b, .bool c] W (rkPost W p s k d gv sv form err c (opI [60, 61] a b)) := by
  have H := Lib.hid h
  have g0 : ((st [60, 61]).toList == [124]) = false := by rw [st_eq]; decide
  have g1 : ((st [60, 61]).toList == [94]) = false := by rw [st_eq]; decide
  have g2 : ((st [60, 61]).toList == [38]) = false := by rw [st_eq]; decide
  have g3 : ((st [60, 61]).toList == [61, 61]) = false := by rw [st_eq]; decide
  have g4 : ((st [60, 61]).toList == [33, 61]) = false := by rw [st_eq]; decide
  have g5 : ((st [60, 61]).toList == [60]) = false := by rw [st_eq]; decide
  have g6 : ((st [60, 61]).toList == [60, 61]) = true := by rw [st_eq]; decide
  rw [show opI [60, 61] a b = (truth (decide (a ≤ b)), 0) from rfl]
  have HT := Lib.hid (rtruth_any (decide (a ≤ b)))
  generalize st [60, 61] = x at *
  clear h
  go_enter Tryz.func16, Tryz.ntmps16
  go_wp2_with (go_at_call 25; (with_reducible refine (HT.out _).mono ?_); rintro e w' ⟨rfl, rfl⟩)
  go_ret
  exact rk_same H.out (Fr.refl _ _)
set_option maxHeartbeats 2000000 in
theorem rk_gt (W : World) (p : Nat) (s : ByteArray) (k d : Nat) (gv sv : Value) (form : Bool) (err : Int) (a b : Int) (c : Bool) (ha : I64 a) (hb : I64 b) (h : RD W p s k d gv sv form err) :
    Calls Tryz.prog 16 #[.pointer (some ⟨p, 0, none⟩), .string (st [62]), .int .i64 a, .int .i64 b, .bool c] W (rkPost W p s k d gv sv form err c (opI [62] a b)) := by
  have H := Lib.hid h
  have g0 : ((st [62]).toList == [124]) = false := by rw [st_eq]; decide
  have g1 : ((st [62]).toList == [94]) = false := by rw [st_eq]; decide
  have g2 : ((st [62]).toList == [38]) = false := by rw [st_eq]; decide
  have g3 : ((st [62]).toList == [61, 61]) = false := by rw [st_eq]; decide
  have g4 : ((st [62]).toList == [33, 61]) = false := by rw [st_eq]; decide
  have g5 : ((st [62]).toList == [60]) = false := by rw [st_eq]; decide
  have g6 : ((st [62]).toList == [60, 61]) = false := by rw [st_eq]; decide
  have g7 : ((st [62]).toList == [62]) = true := by rw [st_eq]; decide
  rw [show opI [62] a b = (truth (decide (b < a)), 0) from rfl]
  have HT := Lib.hid (rtruth_any (decide (b < a)))
  generalize st [62] = x at *
  clear h
  go_enter Tryz.func16, Tryz.ntmps16
  go_wp2_with (go_at_call 25; (with_reducible refine (HT.out _).mono ?_); rintro e w' ⟨rfl, rfl⟩)
  go_ret
  exact rk_same H.out (Fr.refl _ _)
set_option maxHeartbeats 2000000 in
theorem rk_ge (W : World) (p : Nat) (s : ByteArray) (k d : Nat) (gv sv : Value) (form : Bool) (err : Int) (a b : Int) (c : Bool) (ha : I64 a) (hb : I64 b) (h : RD W p s k d gv sv form err) :
    Calls Tryz.prog 16 #[.pointer (some ⟨p, 0, none⟩), .string (st [62, 61]), .int .i64 a, .int .i64 b, .bool c] W (rkPost W p s k d gv sv form err c (opI [62, 61] a b)) := by
  have H := Lib.hid h
  have g0 : ((st [62, 61]).toList == [124]) = false := by rw [st_eq]; decide
  have g1 : ((st [62, 61]).toList == [94]) = false := by rw [st_eq]; decide
  have g2 : ((st [62, 61]).toList == [38]) = false := by rw [st_eq]; decide
  have g3 : ((st [62, 61]).toList == [61, 61]) = false := by rw [st_eq]; decide
  have g4 : ((st [62, 61]).toList == [33, 61]) = false := by rw [st_eq]; decide
  have g5 : ((st [62, 61]).toList == [60]) = false := by rw [st_eq]; decide
  have g6 : ((st [62, 61]).toList == [60, 61]) = false := by rw [st_eq]; decide
  have g7 : ((st [62, 61]).toList == [62]) = false := by rw [st_eq]; decide
  have g8 : ((st [62, 61]).toList == [62, 61]) = true := by rw [st_eq]; decide
  rw [show opI [62, 61] a b = (truth (decide (b ≤ a)), 0) from rfl]
  have HT := Lib.hid (rtruth_any (decide (b ≤ a)))
  generalize st [62, 61] = x at *
  clear h
  go_enter Tryz.func16, Tryz.ntmps16
  go_wp2_with (go_at_call 25; (with_reducible refine (HT.out _).mono ?_); rintro e w' ⟨rfl, rfl⟩)
  go_ret
  exact rk_same H.out (Fr.refl _ _)
set_option maxHeartbeats 2000000 in
theorem rk_shl (W : World) (p : Nat) (s : ByteArray) (k d : Nat) (gv sv : Value) (form : Bool) (err : Int) (a b : Int) (c : Bool) (ha : I64 a) (hb : I64 b) (h : RD W p s k d gv sv form err) :
    Calls Tryz.prog 16 #[.pointer (some ⟨p, 0, none⟩), .string (st [60, 60]), .int .i64 a, .int .i64 b, .bool c] W (rkPost W p s k d gv sv form err c (opI [60, 60] a b)) := by
  have H := Lib.hid h
  have g0 : ((st [60, 60]).toList == [124]) = false := by rw [st_eq]; decide
  have g1 : ((st [60, 60]).toList == [94]) = false := by rw [st_eq]; decide
  have g2 : ((st [60, 60]).toList == [38]) = false := by rw [st_eq]; decide
  have g3 : ((st [60, 60]).toList == [61, 61]) = false := by rw [st_eq]; decide
  have g4 : ((st [60, 60]).toList == [33, 61]) = false := by rw [st_eq]; decide
  have g5 : ((st [60, 60]).toList == [60]) = false := by rw [st_eq]; decide
  have g6 : ((st [60, 60]).toList == [60, 61]) = false := by rw [st_eq]; decide
  have g7 : ((st [60, 60]).toList == [62]) = false := by rw [st_eq]; decide
  have g8 : ((st [60, 60]).toList == [62, 61]) = false := by rw [st_eq]; decide
  have g9 : ((st [60, 60]).toList == [60, 60]) = true := by rw [st_eq]; decide
  rw [show opI [60, 60] a b = (wrap64 (a * 2 ^ (low6 b).toNat), 0) from rfl]
  obtain ⟨l0, l1, l2⟩ := low6_r b hb
  generalize low6 b = z at *
  generalize st [60, 60] = x at *
  clear h
  go_enter Tryz.func16, Tryz.ntmps16
  go_wp2
  go_ret
  exact rk_same H.out (Fr.refl _ _)
set_option maxHeartbeats 2000000 in
theorem rk_shr (W : World) (p : Nat) (s : ByteArray) (k d : Nat) (gv sv : Value) (form : Bool) (err : Int) (a b : Int) (c : Bool) (ha : I64 a) (hb : I64 b) (h : RD W p s k d gv sv form err) :
    Calls Tryz.prog 16 #[.pointer (some ⟨p, 0, none⟩), .string (st [62, 62]), .int .i64 a, .int .i64 b, .bool c] W (rkPost W p s k d gv sv form err c (opI [62, 62] a b)) := by
  have H := Lib.hid h
  have g0 : ((st [62, 62]).toList == [124]) = false := by rw [st_eq]; decide
  have g1 : ((st [62, 62]).toList == [94]) = false := by rw [st_eq]; decide
  have g2 : ((st [62, 62]).toList == [38]) = false := by rw [st_eq]; decide
  have g3 : ((st [62, 62]).toList == [61, 61]) = false := by rw [st_eq]; decide
  have g4 : ((st [62, 62]).toList == [33, 61]) = false := by rw [st_eq]; decide
  have g5 : ((st [62, 62]).toList == [60]) = false := by rw [st_eq]; decide
  have g6 : ((st [62, 62]).toList == [60, 61]) = false := by rw [st_eq]; decide
  have g7 : ((st [62, 62]).toList == [62]) = false := by rw [st_eq]; decide
  have g8 : ((st [62, 62]).toList == [62, 61]) = false := by rw [st_eq]; decide
  have g9 : ((st [62, 62]).toList == [60, 60]) = false := by rw [st_eq]; decide
  have g10 : ((st [62, 62]).toList == [62, 62]) = true := by rw [st_eq]; decide
  rw [show opI [62, 62] a b = (a / 2 ^ (low6 b).toNat, 0) from rfl]
  obtain ⟨l0, l1, l2⟩ := low6_r b hb
  generalize low6 b = z at *
  generalize st [62, 62] = x at *
  clear h
  go_enter Tryz.func16, Tryz.ntmps16
  go_wp2
  go_ret
  exact rk_same H.out (Fr.refl _ _)
set_option maxHeartbeats 2000000 in
theorem rk_add (W : World) (p : Nat) (s : ByteArray) (k d : Nat) (gv sv : Value) (form : Bool) (err : Int) (a b : Int) (c : Bool) (ha : I64 a) (hb : I64 b) (h : RD W p s k d gv sv form err) :
    Calls Tryz.prog 16 #[.pointer (some ⟨p, 0, none⟩), .string (st [43]), .int .i64 a, .int .i64 b, .bool c] W (rkPost W p s k d gv sv form err c (opI [43] a b)) := by
  have H := Lib.hid h
  have g0 : ((st [43]).toList == [124]) = false := by rw [st_eq]; decide
  have g1 : ((st [43]).toList == [94]) = false := by rw [st_eq]; decide
  have g2 : ((st [43]).toList == [38]) = false := by rw [st_eq]; decide
  have g3 : ((st [43]).toList == [61, 61]) = false := by rw [st_eq]; decide
  have g4 : ((st [43]).toList == [33, 61]) = false := by rw [st_eq]; decide
  have g5 : ((st [43]).toList == [60]) = false := by rw [st_eq]; decide
  have g6 : ((st [43]).toList == [60, 61]) = false := by rw [st_eq]; decide
  have g7 : ((st [43]).toList == [62]) = false := by rw [st_eq]; decide
  have g8 : ((st [43]).toList == [62, 61]) = false := by rw [st_eq]; decide
  have g9 : ((st [43]).toList == [60, 60]) = false := by rw [st_eq]; decide
  have g10 : ((st [43]).toList == [62, 62]) = false := by rw [st_eq]; decide
  have g11 : ((st [43]).toList == [43]) = true := by rw [st_eq]; decide
  rw [show opI [43] a b = (wrap64 (a + b), 0) from rfl]
  generalize st [43] = x at *
  clear h
  go_enter Tryz.func16, Tryz.ntmps16
  go_wp2
  go_ret
  exact rk_same H.out (Fr.refl _ _)
set_option maxHeartbeats 2000000 in
theorem rk_sub (W : World) (p : Nat) (s : ByteArray) (k d : Nat) (gv sv : Value) (form : Bool) (err : Int) (a b : Int) (c : Bool) (ha : I64 a) (hb : I64 b) (h : RD W p s k d gv sv form err) :
    Calls Tryz.prog 16 #[.pointer (some ⟨p, 0, none⟩), .string (st [45]), .int .i64 a, .int .i64 b, .bool c] W (rkPost W p s k d gv sv form err c (opI [45] a b)) := by
  have H := Lib.hid h
  have g0 : ((st [45]).toList == [124]) = false := by rw [st_eq]; decide
  have g1 : ((st [45]).toList == [94]) = false := by rw [st_eq]; decide
  have g2 : ((st [45]).toList == [38]) = false := by rw [st_eq]; decide
  have g3 : ((st [45]).toList == [61, 61]) = false := by rw [st_eq]; decide
  have g4 : ((st [45]).toList == [33, 61]) = false := by rw [st_eq]; decide
  have g5 : ((st [45]).toList == [60]) = false := by rw [st_eq]; decide
  have g6 : ((st [45]).toList == [60, 61]) = false := by rw [st_eq]; decide
  have g7 : ((st [45]).toList == [62]) = false := by rw [st_eq]; decide
  have g8 : ((st [45]).toList == [62, 61]) = false := by rw [st_eq]; decide
  have g9 : ((st [45]).toList == [60, 60]) = false := by rw [st_eq]; decide
  have g10 : ((st [45]).toList == [62, 62]) = false := by rw [st_eq]; decide
  have g11 : ((st [45]).toList == [43]) = false := by rw [st_eq]; decide
  have g12 : ((st [45]).toList == [45]) = true := by rw [st_eq]; decide
  rw [show opI [45] a b = (wrap64 (a - b), 0) from rfl]
  generalize st [45] = x at *
  clear h
  go_enter Tryz.func16, Tryz.ntmps16
  go_wp2
  go_ret
  exact rk_same H.out (Fr.refl _ _)
set_option maxHeartbeats 2000000 in
theorem rk_mul (W : World) (p : Nat) (s : ByteArray) (k d : Nat) (gv sv : Value) (form : Bool) (err : Int) (a b : Int) (c : Bool) (ha : I64 a) (hb : I64 b) (h : RD W p s k d gv sv form err) :
    Calls Tryz.prog 16 #[.pointer (some ⟨p, 0, none⟩), .string (st [42]), .int .i64 a, .int .i64 b, .bool c] W (rkPost W p s k d gv sv form err c (opI [42] a b)) := by
  have H := Lib.hid h
  have g0 : ((st [42]).toList == [124]) = false := by rw [st_eq]; decide
  have g1 : ((st [42]).toList == [94]) = false := by rw [st_eq]; decide
  have g2 : ((st [42]).toList == [38]) = false := by rw [st_eq]; decide
  have g3 : ((st [42]).toList == [61, 61]) = false := by rw [st_eq]; decide
  have g4 : ((st [42]).toList == [33, 61]) = false := by rw [st_eq]; decide
  have g5 : ((st [42]).toList == [60]) = false := by rw [st_eq]; decide
  have g6 : ((st [42]).toList == [60, 61]) = false := by rw [st_eq]; decide
  have g7 : ((st [42]).toList == [62]) = false := by rw [st_eq]; decide
  have g8 : ((st [42]).toList == [62, 61]) = false := by rw [st_eq]; decide
  have g9 : ((st [42]).toList == [60, 60]) = false := by rw [st_eq]; decide
  have g10 : ((st [42]).toList == [62, 62]) = false := by rw [st_eq]; decide
  have g11 : ((st [42]).toList == [43]) = false := by rw [st_eq]; decide
  have g12 : ((st [42]).toList == [45]) = false := by rw [st_eq]; decide
  have g13 : ((st [42]).toList == [42]) = true := by rw [st_eq]; decide
  rw [show opI [42] a b = (wrap64 (a * b), 0) from rfl]
  generalize st [42] = x at *
  clear h
  go_enter Tryz.func16, Tryz.ntmps16
  go_wp2
  go_ret
  exact rk_same H.out (Fr.refl _ _)
set_option maxHeartbeats 2000000 in
theorem rk_quo (W : World) (p : Nat) (s : ByteArray) (k d : Nat) (gv sv : Value) (form : Bool) (err : Int) (a b : Int) (c : Bool) (ha : I64 a) (hb : I64 b) (h : RD W p s k d gv sv form err) :
    Calls Tryz.prog 16 #[.pointer (some ⟨p, 0, none⟩), .string (st [47]), .int .i64 a, .int .i64 b, .bool c] W (rkPost W p s k d gv sv form err c (opI [47] a b)) := by
  have H := Lib.hid h
  have g0 : ((st [47]).toList == [124]) = false := by rw [st_eq]; decide
  have g1 : ((st [47]).toList == [94]) = false := by rw [st_eq]; decide
  have g2 : ((st [47]).toList == [38]) = false := by rw [st_eq]; decide
  have g3 : ((st [47]).toList == [61, 61]) = false := by rw [st_eq]; decide
  have g4 : ((st [47]).toList == [33, 61]) = false := by rw [st_eq]; decide
  have g5 : ((st [47]).toList == [60]) = false := by rw [st_eq]; decide
  have g6 : ((st [47]).toList == [60, 61]) = false := by rw [st_eq]; decide
  have g7 : ((st [47]).toList == [62]) = false := by rw [st_eq]; decide
  have g8 : ((st [47]).toList == [62, 61]) = false := by rw [st_eq]; decide
  have g9 : ((st [47]).toList == [60, 60]) = false := by rw [st_eq]; decide
  have g10 : ((st [47]).toList == [62, 62]) = false := by rw [st_eq]; decide
  have g11 : ((st [47]).toList == [43]) = false := by rw [st_eq]; decide
  have g12 : ((st [47]).toList == [45]) = false := by rw [st_eq]; decide
  have g13 : ((st [47]).toList == [42]) = false := by rw [st_eq]; decide
  have g14 : ((st [47]).toList == [47]) = true := by rw [st_eq]; decide
  obtain ⟨c0, c1, c2, c3, c4, c5, c6, fz⟩ := h.cells
  have f6 := fz 6
  by_cases h0 : b = 0
  · subst h0
    rw [show opI [47] a 0 = (0, 22) from rfl]
    generalize st [47] = x at *
    by_cases hc : c = true ∧ err = 0
    · obtain ⟨rfl, rfl⟩ := hc
      clear h c0 c1 c2 c3 c4 c5 fz
      go_enter Tryz.func16, Tryz.ntmps16
      go_wp2
      go_ret
      exact ⟨rfl, H.out.setErr 22, Fr.one W p 6 _⟩
    · have HB := Lib.hid (show bumpE err c 22 = err from if_neg (fun h => hc h.2))
      cases c with
      | false =>
        clear h c0 c1 c2 c3 c4 c5 fz
        go_enter Tryz.func16, Tryz.ntmps16
        go_wp2
        go_ret
        exact ⟨rfl, by rw [HB.out]; exact H.out, Fr.refl _ _⟩
      | true =>
        have he : (((err : Int) == 0) : Bool) = false := by rw [beq_eq_false_iff_ne]; exact fun e => hc ⟨rfl, e⟩
        clear h c0 c1 c2 c3 c4 c5 fz hc
        go_enter Tryz.func16, Tryz.ntmps16
        go_wp2
        go_ret
        exact ⟨rfl, by rw [HB.out]; exact H.out, Fr.refl _ _⟩
  · have gb0 : (((b : Int) == 0) : Bool) = false := by rw [beq_eq_false_iff_ne]; exact h0
    have E := Lib.hid (show opI [47] a b = (wrap64 (a.tdiv b), 0) by unfold opI; simp [h0])
    by_cases hm : b = -1
    · have E2 := Lib.hid (show opI [47] a b = (wrap64 (-a), 0) by rw [E.out, hm]; simp)
      have gbm : (((b : Int) == -1) : Bool) = true := by rw [hm]; rfl
      rw [E2.out]
      generalize st [47] = x at *
      clear h c0 c1 c2 c3 c4 c5 fz hm
      go_enter Tryz.func16, Tryz.ntmps16
      go_wp2
      go_ret
      exact rk_same H.out (Fr.refl _ _)
    · have gbm : (((b : Int) == -1) : Bool) = false := by rw [beq_eq_false_iff_ne]; exact hm
      rw [E.out]
      generalize st [47] = x at *
      clear h c0 c1 c2 c3 c4 c5 fz
      go_enter Tryz.func16, Tryz.ntmps16
      go_wp2
      go_ret
      exact rk_same H.out (Fr.refl _ _)
set_option maxHeartbeats 2000000 in
theorem rk_rem (W : World) (p : Nat) (s : ByteArray) (k d : Nat) (gv sv : Value) (form : Bool) (err : Int) (a b : Int) (c : Bool) (ha : I64 a) (hb : I64 b) (h : RD W p s k d gv sv form err) :
    Calls Tryz.prog 16 #[.pointer (some ⟨p, 0, none⟩), .string (st [37]), .int .i64 a, .int .i64 b, .bool c] W (rkPost W p s k d gv sv form err c (opI [37] a b)) := by
  have H := Lib.hid h
  have g0 : ((st [37]).toList == [124]) = false := by rw [st_eq]; decide
  have g1 : ((st [37]).toList == [94]) = false := by rw [st_eq]; decide
  have g2 : ((st [37]).toList == [38]) = false := by rw [st_eq]; decide
  have g3 : ((st [37]).toList == [61, 61]) = false := by rw [st_eq]; decide
  have g4 : ((st [37]).toList == [33, 61]) = false := by rw [st_eq]; decide
  have g5 : ((st [37]).toList == [60]) = false := by rw [st_eq]; decide
  have g6 : ((st [37]).toList == [60, 61]) = false := by rw [st_eq]; decide
  have g7 : ((st [37]).toList == [62]) = false := by rw [st_eq]; decide
  have g8 : ((st [37]).toList == [62, 61]) = false := by rw [st_eq]; decide
  have g9 : ((st [37]).toList == [60, 60]) = false := by rw [st_eq]; decide
  have g10 : ((st [37]).toList == [62, 62]) = false := by rw [st_eq]; decide
  have g11 : ((st [37]).toList == [43]) = false := by rw [st_eq]; decide
  have g12 : ((st [37]).toList == [45]) = false := by rw [st_eq]; decide
  have g13 : ((st [37]).toList == [42]) = false := by rw [st_eq]; decide
  have g14 : ((st [37]).toList == [47]) = false := by rw [st_eq]; decide
  obtain ⟨c0, c1, c2, c3, c4, c5, c6, fz⟩ := h.cells
  have f6 := fz 6
  by_cases h0 : b = 0
  · subst h0
    rw [show opI [37] a 0 = (0, 22) from rfl]
    generalize st [37] = x at *
    by_cases hc : c = true ∧ err = 0
    · obtain ⟨rfl, rfl⟩ := hc
      clear h c0 c1 c2 c3 c4 c5 fz
      go_enter Tryz.func16, Tryz.ntmps16
      go_wp2
      go_ret
      exact ⟨rfl, H.out.setErr 22, Fr.one W p 6 _⟩
    · have HB := Lib.hid (show bumpE err c 22 = err from if_neg (fun h => hc h.2))
      cases c with
      | false =>
        clear h c0 c1 c2 c3 c4 c5 fz
        go_enter Tryz.func16, Tryz.ntmps16
        go_wp2
        go_ret
        exact ⟨rfl, by rw [HB.out]; exact H.out, Fr.refl _ _⟩
      | true =>
        have he : (((err : Int) == 0) : Bool) = false := by rw [beq_eq_false_iff_ne]; exact fun e => hc ⟨rfl, e⟩
        clear h c0 c1 c2 c3 c4 c5 fz hc
        go_enter Tryz.func16, Tryz.ntmps16
        go_wp2
        go_ret
        exact ⟨rfl, by rw [HB.out]; exact H.out, Fr.refl _ _⟩
  · have gb0 : (((b : Int) == 0) : Bool) = false := by rw [beq_eq_false_iff_ne]; exact h0
    have E := Lib.hid (show opI [37] a b = (a.tmod b, 0) by unfold opI; simp [h0])
    by_cases hm : b = -1
    · have E2 := Lib.hid (show opI [37] a b = (0, 0) by rw [E.out, hm]; simp)
      have gbm : (((b : Int) == -1) : Bool) = true := by rw [hm]; rfl
      rw [E2.out]
      generalize st [37] = x at *
      clear h c0 c1 c2 c3 c4 c5 fz hm
      go_enter Tryz.func16, Tryz.ntmps16
      go_wp2
      go_ret
      exact rk_same H.out (Fr.refl _ _)
    · have gbm : (((b : Int) == -1) : Bool) = false := by rw [beq_eq_false_iff_ne]; exact hm
      rw [E.out]
      generalize st [37] = x at *
      clear h c0 c1 c2 c3 c4 c5 fz
      go_enter Tryz.func16, Tryz.ntmps16
      go_wp2
      go_ret
      exact rk_same H.out (Fr.refl _ _)
def opsL : List Bs := [[124], [94], [38], [61, 61], [33, 61], [60], [60, 61], [62], [62, 61], [60, 60], [62, 62], [43], [45], [42], [47], [37]]
theorem rreckon_any (W : World) (p : Nat) (s : ByteArray) (k d : Nat) (gv sv : Value) (form : Bool) (err : Int) (g : Bs) (a b : Int) (c : Bool) (hg : g ∈ opsL) (ha : I64 a) (hb : I64 b) (h : RD W p s k d gv sv form err) :
    Calls Tryz.prog 16 #[.pointer (some ⟨p, 0, none⟩), .string (st g), .int .i64 a, .int .i64 b, .bool c] W (rkPost W p s k d gv sv form err c (opI g a b)) := by
  unfold opsL at hg
  simp only [List.mem_cons, List.not_mem_nil, or_false] at hg
  rcases hg with rfl | rfl | rfl | rfl | rfl | rfl | rfl | rfl | rfl | rfl | rfl | rfl | rfl | rfl | rfl | rfl
  · exact rk_or W p s k d gv sv form err a b c ha hb h
  · exact rk_xor W p s k d gv sv form err a b c ha hb h
  · exact rk_and W p s k d gv sv form err a b c ha hb h
  · exact rk_eq W p s k d gv sv form err a b c ha hb h
  · exact rk_ne W p s k d gv sv form err a b c ha hb h
  · exact rk_lt W p s k d gv sv form err a b c ha hb h
  · exact rk_le W p s k d gv sv form err a b c ha hb h
  · exact rk_gt W p s k d gv sv form err a b c ha hb h
  · exact rk_ge W p s k d gv sv form err a b c ha hb h
  · exact rk_shl W p s k d gv sv form err a b c ha hb h
  · exact rk_shr W p s k d gv sv form err a b c ha hb h
  · exact rk_add W p s k d gv sv form err a b c ha hb h
  · exact rk_sub W p s k d gv sv form err a b c ha hb h
  · exact rk_mul W p s k d gv sv form err a b c ha hb h
  · exact rk_quo W p s k d gv sv form err a b c ha hb h
  · exact rk_rem W p s k d gv sv form err a b c ha hb h
end Go.Proofs.YtbmnngliapmgfaaGreatDoor
