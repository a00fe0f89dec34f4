/- Contract of the program's partAt. -/
import Derived.Test.YtacohhmhggljhaaHF
namespace Go.Proofs.Ytacohhmhggljhaa
open Go.RowKit
set_option linter.unusedVariables false
set_option linter.unusedSimpArgs false
theorem At.byte {s : ByteArray} {k : Nat} {t : Tok} {r : List Tok} (h : At s k (t :: r)) (hl : k < s.size) (n : UInt8) (hn : n ≠ 92) : s[k] = n ↔ t = (n, false) := by
  rcases tok_at s k hl with ⟨h2, h9, e⟩ | ⟨h9, e⟩ <;> rw [h.2] at e <;> injection e with e1 e2 <;> subst e1
  · rw [h9]; simp; exact fun x => hn x.symm
  · simp
theorem partAt_results (W : World) (B : Nat) (x : Prt) (h : PrtAt W B x) (n : Int) (tmps : Array Value)
    (h2 : tmps.getD 6 undef = .pointer (some ⟨B, 0, none⟩)) (h3 : tmps.getD 7 undef = .int .i64 n) :
    (results Try.f28 tmps).run Try.prog W = .ok (.tuple #[prtV x, .int .i64 n]) W := by
  have c0 := h.cell 0
  have c1 := h.cell 1
  have c2 := h.cell 2
  have c3 := h.cell 3
  have c4 := h.cell 4
  have c5 := h.cell 5
  unfold prtV
  simp only [List.getElem?_toArray, List.getElem?_cons_zero, List.getElem?_cons_succ] at c0 c1 c2 c3 c4 c5
  simp only [Array.getD_eq_getD_getElem?] at h2 h3
  simp only [results, Try.f28]
  simp [go_sem, h2, h3, c0, c1, c2, c3, c4, c5]
abbrev zero6 : Array Value := #[.bool false, .bool false, .int .u64 0, .int .u64 0, .int .u64 0, .int .u64 0]
abbrev zero4 : Array Value := #[.int .u64 0, .int .u64 0, .int .u64 0, .int .u64 0]
theorem new_set (W : World) : SetAt (W.alloc (.cells zero4 37)) W.heap.size noneF := by
  unfold SetAt
  simp only [wd_none]
  exact Blk.new _ _ _

set_option maxHeartbeats 1000000 in
theorem part_star (s : ByteArray) (k : Nat) (z : Int) (hs : s.size ≤ 70368744177664) (hl : k < s.size) (h42 : s[k] = 42) (w : World) :
    Calls Try.prog 28 #[.string s, .int .i64 k, .int .i64 z] w fun e w' => e = .returned (.tuple #[prtV star, .int .i64 1]) ∧ Below w.heap.size w w' := by
  have g42 : (((s[k].toNat : Int) == 42) : Bool) = true := u8_true _ 42 h42
  have hB := Lib.hid (show Blk (w.alloc (.cells zero6 39)) w.heap.size 39 zero6 from Blk.new _ _ _)
  have HV := Lib.hid (fun W (h : Blk W w.heap.size 39 #[.bool true, .bool true, .int .u64 0, .int .u64 0, .int .u64 0, .int .u64 0]) => partAt_results W w.heap.size star (by unfold PrtAt star; simp only [show (fun _ : UInt8 => false) = noneF from rfl, wd_none]; exact h) 1)
  clear h42
  go_enter Try.func28, Try.ntmps28
  go_wp2
  refine bodyPost_ret (HV.out _ (Blk.new _ _ _) _ rfl rfl) rfl ⟨rfl, ?_⟩
  exact (Below.refl _ _).alloc (Nat.le_refl _) _

set_option maxHeartbeats 1000000 in
theorem part_any (s : ByteArray) (k : Nat) (z : Int) (hs : s.size ≤ 70368744177664) (hl : k < s.size) (h42 : ¬ s[k] = 42) (h63 : s[k] = 63) (w : World) :
    Calls Try.prog 28 #[.string s, .int .i64 k, .int .i64 z] w fun e w' => e = .returned (.tuple #[prtV anyP, .int .i64 1]) ∧ Below w.heap.size w w' := by
  have g42 : (((s[k].toNat : Int) == 42) : Bool) = false := u8_false _ 42 h42
  have g63 : (((s[k].toNat : Int) == 63) : Bool) = true := u8_true _ 63 h63
  have hB := Lib.hid (show Blk (w.alloc (.cells zero6 39)) w.heap.size 39 zero6 from Blk.new _ _ _)
  have HO := Lib.hid (fun w => (show Calls Try.prog 30 #[.agg #[.int .u64 0, .int .u64 0, .int .u64 0, .int .u64 0]] w fun e w' => e = .returned (.agg #[wd anyP.set 0, wd anyP.set 1, wd anyP.set 2, wd anyP.set 3]) ∧ Below w.heap.size w w' from by
    have := others_any noneF w
    unfold setV at this
    simp only [wd_none] at this
    exact this))
  have HV := Lib.hid (fun W (h : Blk W w.heap.size 39 #[.bool false, .bool true, wd anyP.set 0, wd anyP.set 1, wd anyP.set 2, wd anyP.set 3]) => partAt_results W w.heap.size anyP h 1)
  clear h42 h63
  unfold wd at *
  generalize word anyP.set 0 = v0 at *
  generalize word anyP.set 1 = v1 at *
  generalize word anyP.set 2 = v2 at *
  generalize word anyP.set 3 = v3 at *
  go_enter Try.func28, Try.ntmps28
  go_wp2_with (go_at_call 30; (with_reducible refine (HO.out _).mono ?_); rintro e w1 ⟨rfl, hb1⟩; have hB1 := Blk.later hB.out hb1; have hz1 : w.heap.size < w1.heap.size := (by have := hb1.size; simp at this; omega); have mc0 := hB1.cell 0; have mf0 := hB1.frozen 0; have mc1 := hB1.cell 1; have mf1 := hB1.frozen 1; have mc2 := hB1.cell 2; have mf2 := hB1.frozen 2; have mc3 := hB1.cell 3; have mf3 := hB1.frozen 3; have mc4 := hB1.cell 4; have mf4 := hB1.frozen 4; have mc5 := hB1.cell 5; have mf5 := hB1.frozen 5; simp only [List.getElem?_toArray, List.getElem?_cons_zero, List.getElem?_cons_succ] at mc0 mc1 mc2 mc3 mc4 mc5)
  refine bodyPost_ret (HV.out _ ((((((hB1.set 0 _).set 1 _).set 2 _).set 3 _).set 4 _).set 5 _) _ rfl rfl) rfl ⟨rfl, ?_⟩
  exact ((((((((Below.refl w.heap.size w).alloc (Nat.le_refl _) _).trans (hb1.mono (by simp))).setCell (p := ⟨w.heap.size, 0, none⟩) (Nat.le_refl _) _).setCell (p := ⟨w.heap.size, 1, none⟩) (Nat.le_refl _) _).setCell (p := ⟨w.heap.size, 2, none⟩) (Nat.le_refl _) _).setCell (p := ⟨w.heap.size, 3, none⟩) (Nat.le_refl _) _).setCell (p := ⟨w.heap.size, 4, none⟩) (Nat.le_refl _) _).setCell (p := ⟨w.heap.size, 5, none⟩) (Nat.le_refl _) _

set_option maxHeartbeats 2000000 in
set_option maxRecDepth 100000 in
theorem part_lit (s : ByteArray) (k : Nat) (z : Int) (t : Tok) (r : List Tok) (hs : s.size ≤ 70368744177664) (hat : At s k (t :: r)) (hl : k < s.size) (h42 : ¬ s[k] = 42) (h63 : ¬ s[k] = 63) (h91 : ¬ s[k] = 91) (w : World) :
    Calls Try.prog 28 #[.string s, .int .i64 k, .int .i64 z] w fun e w' => e = .returned (.tuple #[prtV (lit t.1), .int .i64 (tl t)]) ∧ Below w.heap.size w w' := by
  have g42 : (((s[k].toNat : Int) == 42) : Bool) = false := u8_false _ 42 h42
  have g63 : (((s[k].toNat : Int) == 63) : Bool) = false := u8_false _ 63 h63
  have g91 : (((s[k].toNat : Int) == 91) : Bool) = false := u8_false _ 91 h91
  have hB := Lib.hid (show Blk (w.alloc (.cells zero6 39)) w.heap.size 39 zero6 from Blk.new _ _ _)
  have HCb := Lib.hid (fun w => byteAt_any s k t r hat (by unfold maxLen; omega) w)
  have HV := Lib.hid (fun W (h : Blk W w.heap.size 39 #[.bool false, .bool false, wd (lit t.1).set 0, wd (lit t.1).set 1, wd (lit t.1).set 2, wd (lit t.1).set 3]) => partAt_results W w.heap.size (lit t.1) h (tl t))
  have HA := Lib.hid (fun W B (h : SetAt W B noneF) => (show Calls Try.prog 32 #[.pointer (some ⟨B, 0, none⟩), .int .u8 t.1.toNat] W fun e w' => (∃ v, e = .returned v) ∧ Blk w' B 37 #[wd (lit t.1).set 0, wd (lit t.1).set 1, wd (lit t.1).set 2, wd (lit t.1).set 3] ∧ W.grownBy w' (some B) from add_any B noneF t.1 W h))
  clear h42 h63 h91 hat
  unfold wd at *
  generalize word (lit t.1).set 0 = v0 at *
  generalize word (lit t.1).set 1 = v1 at *
  generalize word (lit t.1).set 2 = v2 at *
  generalize word (lit t.1).set 3 = v3 at *
  generalize t.1.toNat = tn at *
  generalize tl t = d at *
  go_enter Try.func28, Try.ntmps28
  go_wp2_with (first | (go_at_call 32; have hS1 := new_set (w.alloc (.cells zero6 39)); rw [World.size_alloc] at hS1; (with_reducible refine (HA.out _ _ hS1).mono ?_); rintro e w2 ⟨⟨vv, rfl⟩, hN2, hg2⟩; have hB2 := Blk.kept (Blk.alloc hB.out (.cells zero4 37)) hg2 (by simp); have hz2 : w.heap.size + 1 < w2.heap.size := (by have := hg2.size; simp at this; omega); have mc0 := hB2.cell 0; have mf0 := hB2.frozen 0; have mc1 := hB2.cell 1; have mf1 := hB2.frozen 1; have mc2 := hB2.cell 2; have mf2 := hB2.frozen 2; have mc3 := hB2.cell 3; have mf3 := hB2.frozen 3; have mc4 := hB2.cell 4; have mf4 := hB2.frozen 4; have mc5 := hB2.cell 5; have mf5 := hB2.frozen 5; simp only [List.getElem?_toArray, List.getElem?_cons_zero, List.getElem?_cons_succ] at mc0 mc1 mc2 mc3 mc4 mc5; have nc0 := hN2.cell 0; have nf0 := hN2.frozen 0; have nc1 := hN2.cell 1; have nf1 := hN2.frozen 1; have nc2 := hN2.cell 2; have nf2 := hN2.frozen 2; have nc3 := hN2.cell 3; have nf3 := hN2.frozen 3; simp only [List.getElem?_toArray, List.getElem?_cons_zero, List.getElem?_cons_succ] at nc0 nc1 nc2 nc3) | (go_at_call 25; (with_reducible refine (HCb.out _).mono ?_); rintro e w' ⟨rfl, rfl⟩))
  refine bodyPost_ret (HV.out _ ((((((hB2.set 0 _).set 1 _).set 2 _).set 3 _).set 4 _).set 5 _) _ rfl rfl) rfl ⟨rfl, ?_⟩
  exact (((((((((Below.refl w.heap.size w).alloc (Nat.le_refl _) _).alloc (by simp) _).grown hg2 (by simp; omega) (fun i e => by cases e; omega)).setCell (p := ⟨w.heap.size, 0, none⟩) (Nat.le_refl _) _).setCell (p := ⟨w.heap.size, 1, none⟩) (Nat.le_refl _) _).setCell (p := ⟨w.heap.size, 2, none⟩) (Nat.le_refl _) _).setCell (p := ⟨w.heap.size, 3, none⟩) (Nat.le_refl _) _).setCell (p := ⟨w.heap.size, 4, none⟩) (Nat.le_refl _) _).setCell (p := ⟨w.heap.size, 5, none⟩) (Nat.le_refl _) _

set_option maxHeartbeats 2000000 in
set_option maxRecDepth 100000 in
theorem part_nset (s : ByteArray) (k : Nat) (z : Int) (t : Tok) (r : List Tok) (hs : s.size ≤ 70368744177664) (hat : At s k (t :: r)) (hl : k < s.size) (h42 : ¬ s[k] = 42) (h63 : ¬ s[k] = 63) (h91 : s[k] = 91)
    (hset : ∀ w, Calls Try.prog 31 #[.string s, .int .i64 k, .int .i64 z] w fun e w' => e = .returned (.tuple #[prtV noneP, .int .i64 0]) ∧ Below w.heap.size w w') (w : World) :
    Calls Try.prog 28 #[.string s, .int .i64 k, .int .i64 z] w fun e w' => e = .returned (.tuple #[prtV (lit t.1), .int .i64 (tl t)]) ∧ Below w.heap.size w w' := by
  have g42 : (((s[k].toNat : Int) == 42) : Bool) = false := u8_false _ 42 h42
  have g63 : (((s[k].toNat : Int) == 63) : Bool) = false := u8_false _ 63 h63
  have g91 : (((s[k].toNat : Int) == 91) : Bool) = true := u8_true _ 91 h91
  have hB := Lib.hid (show Blk (w.alloc (.cells zero6 39)) w.heap.size 39 zero6 from Blk.new _ _ _)
  have HCb := Lib.hid (fun w => byteAt_any s k t r hat (by unfold maxLen; omega) w)
  have HV := Lib.hid (fun W (h : Blk W w.heap.size 39 #[.bool false, .bool false, wd (lit t.1).set 0, wd (lit t.1).set 1, wd (lit t.1).set 2, wd (lit t.1).set 3]) => partAt_results W w.heap.size (lit t.1) h (tl t))
  have HA := Lib.hid (fun W B (h : SetAt W B noneF) => (show Calls Try.prog 32 #[.pointer (some ⟨B, 0, none⟩), .int .u8 t.1.toNat] W fun e w' => (∃ v, e = .returned v) ∧ Blk w' B 37 #[wd (lit t.1).set 0, wd (lit t.1).set 1, wd (lit t.1).set 2, wd (lit t.1).set 3] ∧ W.grownBy w' (some B) from add_any B noneF t.1 W h))
  have HS := Lib.hid (fun w => (show Calls Try.prog 31 #[.string s, .int .i64 k, .int .i64 z] w fun e w' => e = .returned (.tuple #[.agg #[.bool false, .bool false, .int .u64 0, .int .u64 0, .int .u64 0, .int .u64 0], .int .i64 0]) ∧ Below w.heap.size w w' from by
    have := hset w
    unfold prtV noneP at this
    simp only [wd_none] at this
    exact this))
  clear hset
  clear h42 h63 h91 hat
  unfold wd at *
  generalize word (lit t.1).set 0 = v0 at *
  generalize word (lit t.1).set 1 = v1 at *
  generalize word (lit t.1).set 2 = v2 at *
  generalize word (lit t.1).set 3 = v3 at *
  generalize t.1.toNat = tn at *
  generalize tl t = d at *
  go_enter Try.func28, Try.ntmps28
  go_wp2_with (first | (go_at_call 32; have hS1 := new_set (w1.alloc (.cells zero6 39)); rw [World.size_alloc] at hS1; (with_reducible refine (HA.out _ _ hS1).mono ?_); rintro e w2 ⟨⟨vv, rfl⟩, hN2, hg2⟩; have hB2 := Blk.kept ((hB1.alloc (.cells zero6 39)).alloc (.cells zero4 37)) hg2 (by simp; omega); have hz2 : w1.heap.size + 1 < w2.heap.size := (by have := hg2.size; simp at this; omega); have mc0 := hB2.cell 0; have mf0 := hB2.frozen 0; have mc1 := hB2.cell 1; have mf1 := hB2.frozen 1; have mc2 := hB2.cell 2; have mf2 := hB2.frozen 2; have mc3 := hB2.cell 3; have mf3 := hB2.frozen 3; have mc4 := hB2.cell 4; have mf4 := hB2.frozen 4; have mc5 := hB2.cell 5; have mf5 := hB2.frozen 5; simp only [List.getElem?_toArray, List.getElem?_cons_zero, List.getElem?_cons_succ] at mc0 mc1 mc2 mc3 mc4 mc5; have nc0 := hN2.cell 0; have nf0 := hN2.frozen 0; have nc1 := hN2.cell 1; have nf1 := hN2.frozen 1; have nc2 := hN2.cell 2; have nf2 := hN2.frozen 2; have nc3 := hN2.cell 3; have nf3 := hN2.frozen 3; simp only [List.getElem?_toArray, List.getElem?_cons_zero, List.getElem?_cons_succ] at nc0 nc1 nc2 nc3) | (go_at_call 25; (with_reducible refine (HCb.out _).mono ?_); rintro e w' ⟨rfl, rfl⟩) | (go_at_call 31; (with_reducible refine (HS.out _).mono ?_); rintro e w1 ⟨rfl, hb1⟩; have hB1 := Blk.later hB.out hb1; have hz1 : w.heap.size < w1.heap.size := (by have := hb1.size; simp at this; omega)))
  refine bodyPost_ret (HV.out _ ((((((hB2.set 0 _).set 1 _).set 2 _).set 3 _).set 4 _).set 5 _) _ rfl rfl) rfl ⟨rfl, ?_⟩
  exact (((((((((((Below.refl w.heap.size w).alloc (Nat.le_refl _) _).trans (hb1.mono (by simp))).alloc (by omega) _).alloc (by simp; omega) _).grown hg2 (by simp; omega) (fun i e => by cases e; omega)).setCell (p := ⟨w.heap.size, 0, none⟩) (Nat.le_refl _) _).setCell (p := ⟨w.heap.size, 1, none⟩) (Nat.le_refl _) _).setCell (p := ⟨w.heap.size, 2, none⟩) (Nat.le_refl _) _).setCell (p := ⟨w.heap.size, 3, none⟩) (Nat.le_refl _) _).setCell (p := ⟨w.heap.size, 4, none⟩) (Nat.le_refl _) _).setCell (p := ⟨w.heap.size, 5, none⟩) (Nat.le_refl _) _

set_option maxHeartbeats 2000000 in
set_option maxRecDepth 100000 in
theorem part_set (s : ByteArray) (k : Nat) (z : Int) (f : UInt8 → Bool) (n : Nat) (hn : 1 ≤ n) (hs : s.size ≤ 70368744177664) (hl : k < s.size) (h42 : ¬ s[k] = 42) (h63 : ¬ s[k] = 63) (h91 : s[k] = 91)
    (hset : ∀ w, Calls Try.prog 31 #[.string s, .int .i64 k, .int .i64 z] w fun e w' => e = .returned (.tuple #[prtV ⟨false, true, f⟩, .int .i64 n]) ∧ Below w.heap.size w w') (w : World) :
    Calls Try.prog 28 #[.string s, .int .i64 k, .int .i64 z] w fun e w' => e = .returned (.tuple #[prtV ⟨false, true, f⟩, .int .i64 n]) ∧ Below w.heap.size w w' := by
  have g42 : (((s[k].toNat : Int) == 42) : Bool) = false := u8_false _ 42 h42
  have g63 : (((s[k].toNat : Int) == 63) : Bool) = false := u8_false _ 63 h63
  have g91 : (((s[k].toNat : Int) == 91) : Bool) = true := u8_true _ 91 h91
  have hB := Lib.hid (show Blk (w.alloc (.cells zero6 39)) w.heap.size 39 zero6 from Blk.new _ _ _)
  have HV := Lib.hid (fun W (h : Blk W w.heap.size 39 #[.bool false, .bool true, wd f 0, wd f 1, wd f 2, wd f 3]) => partAt_results W w.heap.size ⟨false, true, f⟩ h n)
  have HS := Lib.hid (fun w => (show Calls Try.prog 31 #[.string s, .int .i64 k, .int .i64 z] w fun e w' => e = .returned (.tuple #[.agg #[.bool false, .bool true, wd f 0, wd f 1, wd f 2, wd f 3], .int .i64 n]) ∧ Below w.heap.size w w' from hset w))
  clear hset h42 h63 h91
  unfold wd at *
  generalize word f 0 = v0 at *
  generalize word f 1 = v1 at *
  generalize word f 2 = v2 at *
  generalize word f 3 = v3 at *
  go_enter Try.func28, Try.ntmps28
  go_wp2_with (go_at_call 31; (with_reducible refine (HS.out _).mono ?_); rintro e w1 ⟨rfl, hb1⟩; have hB1 := Blk.later hB.out hb1; have hz1 : w.heap.size < w1.heap.size := (by have := hb1.size; simp at this; omega); have mc0 := hB1.cell 0; have mf0 := hB1.frozen 0; have mc1 := hB1.cell 1; have mf1 := hB1.frozen 1; have mc2 := hB1.cell 2; have mf2 := hB1.frozen 2; have mc3 := hB1.cell 3; have mf3 := hB1.frozen 3; have mc4 := hB1.cell 4; have mf4 := hB1.frozen 4; have mc5 := hB1.cell 5; have mf5 := hB1.frozen 5; simp only [List.getElem?_toArray, List.getElem?_cons_zero, List.getElem?_cons_succ] at mc0 mc1 mc2 mc3 mc4 mc5)
  refine bodyPost_ret (HV.out _ (((((((hB1.set 0 _).set 1 _).set 2 _).set 3 _).set 4 _).set 5 _).alloc _) _ rfl rfl) rfl ⟨rfl, ?_⟩
  exact (((((((((Below.refl w.heap.size w).alloc (Nat.le_refl _) _).trans (hb1.mono (by simp))).setCell (p := ⟨w.heap.size, 0, none⟩) (Nat.le_refl _) _).setCell (p := ⟨w.heap.size, 1, none⟩) (Nat.le_refl _) _).setCell (p := ⟨w.heap.size, 2, none⟩) (Nat.le_refl _) _).setCell (p := ⟨w.heap.size, 3, none⟩) (Nat.le_refl _) _).setCell (p := ⟨w.heap.size, 4, none⟩) (Nat.le_refl _) _).setCell (p := ⟨w.heap.size, 5, none⟩) (Nat.le_refl _) _).alloc (by simp only [size_set]; omega) _
theorem take_body (r : List Tok) (t : Tok) (a b : List Tok) (hr : bodyT (negT r) r = t :: (a ++ (93, false) :: b)) : lenT (((91, false) :: r).take (a.length + 2 + (negT r).toNat + 1)) = 2 + (negT r).toNat + lenT (t :: a) := by
  have hb : lenT ((t :: (a ++ (93, false) :: b)).take (a.length + 2)) = 1 + lenT (t :: a) := by
    rw [List.take_succ_cons, show a.length + 1 = a.length + 1 from rfl, List.take_append, List.take_of_length_le (by omega), show a.length + 1 - a.length = 1 by omega]
    simp [lenT, lenT_append, tl]; omega
  cases hneg : negT r
  · have e : r = t :: (a ++ (93, false) :: b) := by rw [hneg] at hr; exact hr
    rw [e]
    show lenT ((91, false) :: (t :: (a ++ (93, false) :: b)).take (a.length + 2)) = _
    rw [lenT, hb]; simp [tl]; omega
  · rw [hneg] at hr
    cases r with
    | nil => cases hneg
    | cons u q =>
      have hu : u = (33, false) := by unfold negT at hneg; simpa using hneg
      subst hu
      have e : q = t :: (a ++ (93, false) :: b) := hr
      rw [e]
      show lenT ((91, false) :: (33, false) :: (t :: (a ++ (93, false) :: b)).take (a.length + 2)) = _
      rw [lenT, lenT, hb]; simp [tl]; omega
theorem partAt_any (s : ByteArray) (k : Nat) (t : Tok) (r : List Tok) (hs : s.size ≤ 70368744177664) (h : Rch s k (t :: r)) (w : World) :
    Calls Try.prog 28 #[.string s, .int .i64 k, .int .i64 (lastI (toks s.data.toList))] w fun e w' => e = .returned (.tuple #[prtV (partT (t :: r)).1, .int .i64 (lenT ((t :: r).take (partT (t :: r)).2))]) ∧ Below w.heap.size w w' := by
  have hat := h.at_
  have hl := hat.lt
  have e1 : lenT ((t :: r).take 1) = tl t := by simp [lenT]
  by_cases h42 : s[k] = 42
  · have ht := (hat.byte hl 42 (by decide)).1 h42
    have e : partT (t :: r) = (star, 1) := by rw [ht]; rfl
    rw [e, e1, ht]
    exact part_star s k _ hs hl h42 w
  · have n42 : t ≠ (42, false) := fun x => h42 ((hat.byte hl 42 (by decide)).2 x)
    by_cases h63 : s[k] = 63
    · have ht := (hat.byte hl 63 (by decide)).1 h63
      have e : partT (t :: r) = (anyP, 1) := by rw [ht]; rfl
      rw [e, e1, ht]
      exact part_any s k _ hs hl h42 h63 w
    · have n63 : t ≠ (63, false) := fun x => h63 ((hat.byte hl 63 (by decide)).2 x)
      by_cases h91 : s[k] = 91
      · have ht := (hat.byte hl 91 (by decide)).1 h91
        subst ht
        rcases setT_cases r with ⟨_, hn⟩ | ⟨u, a, b, hr, hna, hn⟩
        · have e : partT ((91, false) :: r) = (lit 91, 1) := by
            rw [partT, if_neg n42, if_neg n63, if_pos rfl, hn]
          rw [e, e1]
          exact part_nset s k _ (91, false) r hs hat hl h42 h63 h91 (fun w => setAt_none s k r hs h hn w) w
        · have e : partT ((91, false) :: r) = (⟨false, true, fun x => mem (u :: a) x != negT r⟩, a.length + 2 + (negT r).toNat + 1) := by
            rw [partT, if_neg n42, if_neg n63, if_pos rfl, hn]
          rw [e]
          show Calls _ _ _ w fun e w' => e = .returned (.tuple #[prtV ⟨false, true, fun x => mem (u :: a) x != negT r⟩, .int .i64 (lenT (((91, false) :: r).take (a.length + 2 + (negT r).toNat + 1)))]) ∧ _
          rw [take_body r u a b hr]
          exact part_set s k _ _ _ (by omega) hs hl h42 h63 h91 (fun w => setAt_some s k r hs h u a b hr hna w) w
      · have n91 : t ≠ (91, false) := fun x => h91 ((hat.byte hl 91 (by decide)).2 x)
        have e : partT (t :: r) = (lit t.1, 1) := by
          rw [partT, if_neg n42, if_neg n63, if_neg n91]
        rw [e, e1]
        exact part_lit s k _ t r hs hat hl h42 h63 h91 w

end Go.Proofs.Ytacohhmhggljhaa
