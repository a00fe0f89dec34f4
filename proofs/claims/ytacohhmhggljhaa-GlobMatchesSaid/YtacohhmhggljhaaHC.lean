/- Contracts of the program's sets of bytes: has, add, others. -/
import Derived.Test.YtacohhmhggljhaaHB
import Derived.Test.YtacohhmhggljhaaProg
import Derived.WalkKit
import Derived.WalkSpells
import Derived.WalkLawsBesides
import Derived.Below
import Derived.Deep.QuietTactic
import Derived.BigQuiet
import Derived.BigRegion
import Derived.Lib.Hide
import Derived.IntWalk
import Derived.Laws.BitsLemmas
import Derived.RangeFuncNested
namespace Go.Proofs.Ytacohhmhggljhaa
open Go.RowKit
set_option linter.unusedVariables false
set_option linter.unusedSimpArgs false
theorem ret_bool {a b : Bool} (h : a = b) : Ending.returned (.bool a) = .returned (.bool b) := by rw [h]
theorem ret_int {k : IntKind} {a b : Int} (h : a = b) : Ending.returned (.int k a) = .returned (.int k b) := by rw [h]
theorem ret_val {a b : Value} (h : a = b) : Ending.returned a = .returned b := by rw [h]
/-- block B holds these cells. -/
def Blk (W : World) (B : Nat) (t : TypeId) (cs : Array Value) : Prop := W.heap[B]? = some (.cells cs t (0, 0))
theorem Blk.lt {W : World} {B : Nat} {t : TypeId} {cs : Array Value} (h : Blk W B t cs) : B < W.heap.size := (Array.getElem?_eq_some_iff.1 h).1
theorem Blk.cell {W : World} {B : Nat} {t : TypeId} {cs : Array Value} (h : Blk W B t cs) (k : Nat) : W.cell? ⟨B, k, none⟩ = cs[k]? := by
  simp [World.cell?, show W.heap[B]? = _ from h]
theorem Blk.frozen {W : World} {B : Nat} {t : TypeId} {cs : Array Value} (h : Blk W B t cs) (k : Nat) : W.frozen? ⟨B, k, none⟩ = false := by
  simp [World.frozen?, show W.heap[B]? = _ from h]
theorem Blk.new (W : World) (t : TypeId) (cs : Array Value) : Blk (W.alloc (.cells cs t)) W.heap.size t cs := World.alloc_heap_new W _
theorem Blk.kept {W W' : World} {row : Option Nat} {B : Nat} {t : TypeId} {cs : Array Value} (h : Blk W B t cs) (hg : W.grownBy W' row) (hne : some B ≠ row) : Blk W' B t cs := (hg.block B h.lt hne).trans h
theorem Blk.below {W W' : World} {B n : Nat} {t : TypeId} {cs : Array Value} (h : Blk W B t cs) (hb : Below n W W') (hB : B < n) : Blk W' B t cs := (hb.block B hB).trans h
theorem Blk.later {W W' : World} {B : Nat} {t : TypeId} {cs : Array Value} (h : Blk W B t cs) (hb : Below W.heap.size W W') : Blk W' B t cs := h.below hb h.lt
theorem Blk.alloc {W : World} {B : Nat} {t : TypeId} {cs : Array Value} (h : Blk W B t cs) (o : Obj) : Blk (W.alloc o) B t cs := h.kept (World.grownBy_alloc W o none) (by simp)
theorem Blk.set {W : World} {B : Nat} {t : TypeId} {cs : Array Value} (h : Blk W B t cs) (k : Nat) (v : Value) : Blk (W.setCell ⟨B, k, none⟩ v) B t (cs.setIfInBounds k v) := by
  obtain ⟨hlt, hk⟩ := Array.getElem?_eq_some_iff.1 h
  show (W.heap.modify B _)[B]? = _
  rw [Array.getElem?_eq_getElem (by rw [Array.size_modify]; exact hlt), Array.getElem_modify_self, hk]
  rfl
theorem grownBy_setAt (W : World) (b k : Nat) (v : Value) : W.grownBy (W.setCell ⟨b, k, none⟩ v) (some b) :=
  ⟨rfl, rfl, rfl, (KeepsWalks.setCell W _ v).size, fun j _ hj => Below.heap_setCell _ _ _ j (fun e => hj (by rw [e]))⟩
theorem Blk.other {W : World} {B : Nat} {t : TypeId} {cs : Array Value} (h : Blk W B t cs) (b k : Nat) (v : Value) (hne : B ≠ b) : Blk (W.setCell ⟨b, k, none⟩ v) B t cs :=
  h.kept (grownBy_setAt W b k v) (fun e => hne (Option.some.inj e))
theorem Blk.drew {W : World} {B : Nat} {t : TypeId} {cs : Array Value} (h : Blk W B t cs) : Blk W.drew B t cs := h
theorem grown_drew {W W' : World} {row : Option Nat} (h : W.grownBy W' row) : W.grownBy W'.drew row := ⟨h.os, h.tape, h.output, h.size, h.block⟩
theorem size_set (W : World) (p : Addr) (v : Value) : (W.setCell p v).heap.size = W.heap.size := by simp [World.setCell]
theorem and_u64 (a b : Nat) (ha : a < 18446744073709551616) (hb : b < 18446744073709551616) : bits .and .u64 (a : Int) (b : Int) = ((a &&& b : Nat) : Int) :=
  (bits_nat .u64 64 (by decide) (fun n h0 h1 => by rw [IntKind.wrap_u64]; omega) a b ha hb).1
theorem or_u64 (a b : Nat) (ha : a < 18446744073709551616) (hb : b < 18446744073709551616) : bits .or .u64 (a : Int) (b : Int) = ((a ||| b : Nat) : Int) :=
  (bits_nat .u64 64 (by decide) (fun n h0 h1 => by rw [IntKind.wrap_u64]; omega) a b ha hb).2
theorem xor_u64 (a : Nat) (ha : a < 18446744073709551616) : bits BinOp.xor IntKind.u64 (if IntKind.u64.signed = true then -1 else IntKind.u64.max) (a : Int) = ((18446744073709551615 - a : Nat) : Int) := by
  have e : (if IntKind.u64.signed = true then -1 else IntKind.u64.max : Int) = ((18446744073709551615 : Nat) : Int) := by decide
  rw [e]
  have e2 : 18446744073709551615 ^^^ a = 18446744073709551615 - a := by
    apply Nat.eq_of_testBit_eq
    intro i
    rw [Nat.testBit_xor, show 18446744073709551615 - a = 2 ^ 64 - (a + 1) by omega, Nat.testBit_two_pow_sub_succ ha, show 18446744073709551615 = 2 ^ 64 - 1 from rfl, Nat.testBit_two_pow_sub_one]
    by_cases h : i < 64
    · simp [h]
    · rw [Nat.testBit_lt_two_pow (Nat.lt_of_lt_of_le (show a < 2 ^ 64 from ha) (Nat.pow_le_pow_right (by decide) (by omega)))]; simp [h]
  rw [← e2]
  simp only [bits, BitVec.ofInt_natCast, BitVec.toNat_xor, BitVec.toNat_ofNat]
  rw [IntKind.wrap_u64]
  have h1 : a % 2 ^ IntKind.u64.bits = a := Nat.mod_eq_of_lt ha
  have h2 : 18446744073709551615 % 2 ^ IntKind.u64.bits = 18446744073709551615 := rfl
  rw [h1, h2, e2]
  omega
theorem set_at (f : UInt8 → Bool) (k : Nat) (hk : k < 256) : [wd f 0, wd f 1, wd f 2, wd f 3][k / 64]? = some (wd f (k / 64)) := by
  have : k / 64 = 0 ∨ k / 64 = 1 ∨ k / 64 = 2 ∨ k / 64 = 3 := by omega
  rcases this with h | h | h | h <;> rw [h] <;> rfl
theorem has_bit (m k : Nat) (hm : m < 18446744073709551616) : (bits BinOp.and IntKind.u64 ((m : Int) / 2 ^ (k % 64)) 1 == 1) = m.testBit (k % 64) := by
  have e : (m : Int) / 2 ^ (k % 64) = ((m / 2 ^ (k % 64) : Nat) : Int) := by push_cast; rfl
  have h1 : m / 2 ^ (k % 64) < 18446744073709551616 := Nat.lt_of_le_of_lt (Nat.div_le_self _ _) hm
  have e2 := and_u64 (m / 2 ^ (k % 64)) 1 h1 (by decide)
  rw [e, show ((1 : Int)) = ((1 : Nat) : Int) from rfl, e2, Nat.and_one_is_mod, Nat.testBit_eq_decide_div_mod_eq]
  rw [Bool.eq_iff_iff, beq_iff_eq, decide_eq_true_eq]
  omega
theorem has_any (f : UInt8 → Bool) (c : UInt8) (w : World) :
    Calls Try.prog 21 #[setV f, .int .u8 c.toNat] w fun e w' => e = .returned (.bool (f c)) ∧ Below w.heap.size w w' := by
  have hc := c.toNat_lt
  have hm := word_lt f (c.toNat / 64)
  have hs := set_at f c.toNat hc
  have HR := Lib.hid (word_byte f c)
  unfold setV wd at *
  generalize word f 0 = n0 at *
  generalize word f 1 = n1 at *
  generalize word f 2 = n2 at *
  generalize word f 3 = n3 at *
  generalize word f (c.toNat / 64) = m at *
  generalize c.toNat = k at *
  have hk : (k : Int) < 256 := by omega
  go_enter Try.func21, Try.ntmps21
  go_wp2
  go_ret
  exact ⟨ret_bool ((has_bit m k hm).trans HR.out), (Below.refl _ _).alloc (Nat.le_refl _) _⟩
def insF (f : UInt8 → Bool) (c : UInt8) : UInt8 → Bool := fun x => f x || x == c
def SetAt (W : World) (B : Nat) (f : UInt8 → Bool) : Prop := Blk W B 37 #[wd f 0, wd f 1, wd f 2, wd f 3]
theorem set_ins {W : World} {B : Nat} {f : UInt8 → Bool} (h : SetAt W B f) (c : UInt8) : SetAt (W.setCell ⟨B, c.toNat / 64, none⟩ (wd (insF f c) (c.toNat / 64))) B (insF f c) := by
  have := Blk.set h (c.toNat / 64) (wd (insF f c) (c.toNat / 64))
  have hc := c.toNat_lt
  have hw : ∀ q, q < 4 → q ≠ c.toNat / 64 → wd (insF f c) q = wd f q := fun q hq hn => by
    unfold wd; rw [show word (insF f c) q = word f q from word_other f c q hq hn]
  have hq : c.toNat / 64 = 0 ∨ c.toNat / 64 = 1 ∨ c.toNat / 64 = 2 ∨ c.toNat / 64 = 3 := by omega
  unfold SetAt
  rcases hq with h | h | h | h <;> rw [h] at this hw ⊢
  · rw [hw 1 (by decide) (by decide), hw 2 (by decide) (by decide), hw 3 (by decide) (by decide)]; exact this
  · rw [hw 0 (by decide) (by decide), hw 2 (by decide) (by decide), hw 3 (by decide) (by decide)]; exact this
  · rw [hw 1 (by decide) (by decide), hw 0 (by decide) (by decide), hw 3 (by decide) (by decide)]; exact this
  · rw [hw 1 (by decide) (by decide), hw 2 (by decide) (by decide), hw 0 (by decide) (by decide)]; exact this
/-- a set in block B has become another. -/
def Turned (B : Nat) (f : UInt8 → Bool) (w w' : World) : Prop := SetAt w' B f ∧ w.grownBy w' (some B)
theorem add_any (B : Nat) (f : UInt8 → Bool) (c : UInt8) (w : World) (h : SetAt w B f) :
    Calls Try.prog 32 #[.pointer (some ⟨B, 0, none⟩), .int .u8 c.toNat] w fun e w' => (∃ v, e = .returned v) ∧ Turned B (insF f c) w w' := by
  have hc := c.toNat_lt
  have hm := word_lt f (c.toNat / 64)
  have hs : w.cell? ⟨B, c.toNat / 64, none⟩ = some (wd f (c.toNat / 64)) := (h.cell _).trans (by have := set_at f c.toNat hc; simpa using this)
  have hf : w.frozen? ⟨B, c.toNat / 64, none⟩ = false := h.frozen _
  have HS := Lib.hid (set_ins h c)
  have HA := Lib.hid (word_add f c)
  clear h
  unfold wd at hs
  generalize word f (c.toNat / 64) = m at *
  generalize hk : c.toNat = k at *
  have hk : (k : Int) < 256 := by omega
  go_enter Try.func32, Try.ntmps32
  go_wp2
  go_region
  have hp : (2 : Int) ^ (k % 64) = ((2 ^ (k % 64) : Nat) : Int) := by push_cast; rfl
  have hlt : 2 ^ (k % 64) < 18446744073709551616 := show 2 ^ (k % 64) < 2 ^ 64 from Nat.pow_lt_pow_right (by decide : 1 < 2) (Nat.mod_lt k (by decide : 0 < 64))
  have e1 : IntKind.u64.wrap (2 ^ (k % 64)) = ((2 ^ (k % 64) : Nat) : Int) := by rw [hp, IntKind.wrap_u64]; generalize 2 ^ (k % 64) = z at *; omega
  have e2 : Value.int IntKind.u64 (bits BinOp.or IntKind.u64 (↑m) (IntKind.u64.wrap (2 ^ (k % 64)))) = wd (insF f c) (k / 64) := by
    rw [e1, or_u64 m _ hm hlt, HA.out]; rfl
  rw [e2]
  go_end0
  exact ⟨⟨_, rfl⟩, HS.out, grown_drew (grownBy_setAt w B (k / 64) _)⟩
def notF (f : UInt8 → Bool) : UInt8 → Bool := fun x => !f x
def ocells (a b : Nat → Value) : Nat → Array Value
  | 0 => #[b 0, b 1, b 2, b 3]
  | 1 => #[a 0, b 1, b 2, b 3]
  | 2 => #[a 0, a 1, b 2, b 3]
  | 3 => #[a 0, a 1, a 2, b 3]
  | _ => #[a 0, a 1, a 2, a 3]
theorem others_results (W : World) (B : Nat) (a b c d : Value) (h : Blk W B 37 #[a, b, c, d]) (tmps : Array Value)
    (h2 : tmps.getD 2 undef = .pointer (some ⟨B, 0, none⟩)) :
    (results Try.f30 tmps).run Try.prog W = .ok (.agg #[a, b, c, d]) W := by
  have c0 := h.cell 0
  have c1 := h.cell 1
  have c2 := h.cell 2
  have c3 := h.cell 3
  simp only [List.getElem?_toArray, List.getElem?_cons_zero, List.getElem?_cons_succ] at c0 c1 c2 c3
  simp only [Array.getD_eq_getD_getElem?] at h2
  simp only [results, Try.f30]
  simp [go_sem, h2, c0, c1, c2, c3]
theorem others_any (f : UInt8 → Bool) (w : World) :
    Calls Try.prog 30 #[setV f] w fun e w' => e = .returned (setV (notF f)) ∧ Below w.heap.size w w' := by
  have HW := Lib.hid (show setV (notF f) = .agg #[.int .u64 ((18446744073709551615 - word f 0 : Nat) : Int), .int .u64 ((18446744073709551615 - word f 1 : Nat) : Int), .int .u64 ((18446744073709551615 - word f 2 : Nat) : Int), .int .u64 ((18446744073709551615 - word f 3 : Nat) : Int)] by
    unfold setV wd notF; rw [word_not, word_not, word_not, word_not])
  have h0 := word_lt f 0
  have h1 := word_lt f 1
  have h2 := word_lt f 2
  have h3 := word_lt f 3
  rw [HW.out]
  unfold setV wd
  clear HW
  generalize word f = wf at *
  go_enter Try.func30, Try.ntmps30
  go_wp2
  go_loopw [3, 4] (fun i k wr => ∃ n : Nat, n ≤ 4 ∧ k = .int .i64 n ∧ Blk wr w.heap.size 37 (ocells (fun q => .int .u64 ((18446744073709551615 - wf q : Nat) : Int)) (fun q => .int .u64 (wf q)) n) ∧ Below w.heap.size w wr ∧ Blk wr (w.heap.size + 1) 37 #[.int .u64 0, .int .u64 0, .int .u64 0, .int .u64 0]) (fun _ k _ => 4 - (intOf k).toNat)
  case atStart =>
    refine ⟨0, by omega, rfl, (Blk.new _ _ _).alloc _, ((Below.refl _ _).alloc (Nat.le_refl _) _).alloc (by simp) _, ?_⟩
    have := Blk.new (w.alloc (.cells #[.int .u64 (wf 0), .int .u64 (wf 1), .int .u64 (wf 2), .int .u64 (wf 3)] 37)) 37 #[.int .u64 0, .int .u64 0, .int .u64 0, .int .u64 0]
    rwa [World.size_alloc] at this
  case round =>
    obtain ⟨n, hn, rfl, hB, hb, hR⟩ := hrel
    have : n = 0 ∨ n = 1 ∨ n = 2 ∨ n = 3 ∨ n = 4 := by omega
    rcases this with rfl | rfl | rfl | rfl | rfl
    · replace hB : Blk wr w.heap.size 37 #[.int .u64 (wf 0), .int .u64 (wf 1), .int .u64 (wf 2), .int .u64 (wf 3)] := hB
      have hc : wr.cell? ⟨w.heap.size, 0, none⟩ = some (.int .u64 (wf 0)) := hB.cell 0
      have hf := hB.frozen 0
      have HX := Lib.hid (xor_u64 (wf 0) h0)
      go_wp2
      rw [HX.out]
      refine ⟨⟨1, by omega, rfl, hB.set 0 _, hb.setCell (p := ⟨w.heap.size, 0, none⟩) (Nat.le_refl _) _, hR.other _ _ _ (by omega)⟩, by simp [intOf]⟩
    · replace hB : Blk wr w.heap.size 37 #[.int .u64 ((18446744073709551615 - wf 0 : Nat) : Int), .int .u64 (wf 1), .int .u64 (wf 2), .int .u64 (wf 3)] := hB
      have hc : wr.cell? ⟨w.heap.size, 1, none⟩ = some (.int .u64 (wf 1)) := hB.cell 1
      have hf := hB.frozen 1
      have HX := Lib.hid (xor_u64 (wf 1) h1)
      go_wp2
      rw [HX.out]
      refine ⟨⟨2, by omega, rfl, hB.set 1 _, hb.setCell (p := ⟨w.heap.size, 1, none⟩) (Nat.le_refl _) _, hR.other _ _ _ (by omega)⟩, by simp [intOf]⟩
    · replace hB : Blk wr w.heap.size 37 #[.int .u64 ((18446744073709551615 - wf 0 : Nat) : Int), .int .u64 ((18446744073709551615 - wf 1 : Nat) : Int), .int .u64 (wf 2), .int .u64 (wf 3)] := hB
      have hc : wr.cell? ⟨w.heap.size, 2, none⟩ = some (.int .u64 (wf 2)) := hB.cell 2
      have hf := hB.frozen 2
      have HX := Lib.hid (xor_u64 (wf 2) h2)
      go_wp2
      rw [HX.out]
      refine ⟨⟨3, by omega, rfl, hB.set 2 _, hb.setCell (p := ⟨w.heap.size, 2, none⟩) (Nat.le_refl _) _, hR.other _ _ _ (by omega)⟩, by simp [intOf]⟩
    · replace hB : Blk wr w.heap.size 37 #[.int .u64 ((18446744073709551615 - wf 0 : Nat) : Int), .int .u64 ((18446744073709551615 - wf 1 : Nat) : Int), .int .u64 ((18446744073709551615 - wf 2 : Nat) : Int), .int .u64 (wf 3)] := hB
      have hc : wr.cell? ⟨w.heap.size, 3, none⟩ = some (.int .u64 (wf 3)) := hB.cell 3
      have hf := hB.frozen 3
      have HX := Lib.hid (xor_u64 (wf 3) h3)
      go_wp2
      rw [HX.out]
      refine ⟨⟨4, by omega, rfl, hB.set 3 _, hb.setCell (p := ⟨w.heap.size, 3, none⟩) (Nat.le_refl _) _, hR.other _ _ _ (by omega)⟩, by simp [intOf]⟩
    · replace hB : Blk wr w.heap.size 37 #[.int .u64 ((18446744073709551615 - wf 0 : Nat) : Int), .int .u64 ((18446744073709551615 - wf 1 : Nat) : Int), .int .u64 ((18446744073709551615 - wf 2 : Nat) : Int), .int .u64 ((18446744073709551615 - wf 3 : Nat) : Int)] := hB
      have hc0 := hB.cell 0
      have hc1 := hB.cell 1
      have hc2 := hB.cell 2
      have hc3 := hB.cell 3
      have hr0 := hR.cell 0
      have hr1 := hR.cell 1
      have hr2 := hR.cell 2
      have hr3 := hR.cell 3
      have hf0 := hR.frozen 0
      have hf1 := hR.frozen 1
      have hf2 := hR.frozen 2
      have hf3 := hR.frozen 3
      simp only [List.getElem?_toArray, List.getElem?_cons_zero, List.getElem?_cons_succ] at hc0 hc1 hc2 hc3 hr0 hr1 hr2 hr3
      have hd : ¬ ((4 : Nat) : Int) < 4 := by omega
      rw [show ((4 : Nat) : Int) = 4 from rfl] at *
      go_wp2
      refine bodyPost_ret (others_results _ _ _ _ _ _ ((((hR.set 0 _).set 1 _).set 2 _).set 3 _) _ rfl) rfl ⟨rfl, ?_⟩
      exact (((hb.setCell (p := ⟨w.heap.size + 1, 0, none⟩) (by simp) _).setCell (p := ⟨w.heap.size + 1, 1, none⟩) (by simp) _).setCell (p := ⟨w.heap.size + 1, 2, none⟩) (by simp) _).setCell (p := ⟨w.heap.size + 1, 3, none⟩) (by simp) _
end Go.Proofs.Ytacohhmhggljhaa
