/- The document's answer: part. -/
/- The document's answer: part. -/
/- The document's answer: part. -/
/- The document's answer: part. -/
import Derived.Test.YtoahgblgchmclaaLM
namespace Go.Proofs.Ytoahgblgchmclaa
open Go.RowKit
set_option linter.unusedVariables false
set_option linter.unusedSimpArgs false
theorem pick_esc : ∀ q b1 b2 b3 b4 b5 b6 b7, pick q b1 b2 b3 b4 b5 b6 b7 = some .esc → b1 = true := by decide
theorem pick_sq : ∀ q b1 b2 b3 b4 b5 b6 b7, pick q b1 b2 b3 b4 b5 b6 b7 = some .sq → b2 = true ∧ q = false := by decide
theorem pick_dq : ∀ q b1 b2 b3 b4 b5 b6 b7, pick q b1 b2 b3 b4 b5 b6 b7 = some .dq → b3 = true ∧ q = false := by decide
theorem pick_ar : ∀ q b1 b2 b3 b4 b5 b6 b7, pick q b1 b2 b3 b4 b5 b6 b7 = some .ar → b4 = true := by decide
theorem pick_su : ∀ q b1 b2 b3 b4 b5 b6 b7, pick q b1 b2 b3 b4 b5 b6 b7 = some .su → b4 = false ∧ b5 = true := by decide
theorem pick_pa : ∀ q b1 b2 b3 b4 b5 b6 b7, pick q b1 b2 b3 b4 b5 b6 b7 = some .pa → b4 = false ∧ b5 = false ∧ b6 = true := by decide
theorem pick_gr : ∀ q b1 b2 b3 b4 b5 b6 b7, pick q b1 b2 b3 b4 b5 b6 b7 = some .gr → b7 = true := by decide
theorem pick_none1 : ∀ q b1 b2 b3 b4 b5 b6 b7, pick q b1 b2 b3 b4 b5 b6 b7 = none → b1 = false ∧ b5 = false := by decide
theorem pick_none2 : ∀ q b1 b2 b3 b4 b5 b6 b7, pick q b1 b2 b3 b4 b5 b6 b7 = none → b6 = false ∧ b7 = false := by decide
theorem pick_none3 : ∀ q b1 b2 b3 b4 b5 b6 b7, pick q b1 b2 b3 b4 b5 b6 b7 = none → (q = true ∨ (b2 = false ∧ b3 = false)) := by decide
theorem pick_none {q b1 b2 b3 b4 b5 b6 b7 : Bool} (h : pick q b1 b2 b3 b4 b5 b6 b7 = none) : b1 = false ∧ b5 = false ∧ b6 = false ∧ b7 = false ∧ (q = true ∨ (b2 = false ∧ b3 = false)) :=
  ⟨(pick_none1 _ _ _ _ _ _ _ _ h).1, (pick_none1 _ _ _ _ _ _ _ _ h).2, (pick_none2 _ _ _ _ _ _ _ _ h).1, (pick_none2 _ _ _ _ _ _ _ _ h).2, pick_none3 _ _ _ _ _ _ _ _ h⟩
theorem pre_head' {c : UInt8} {p : Bs} {s : ByteArray} (h0 : 0 < s.size) (h : pre (c :: p) s.data.toList = true) : s[0] = c := by
  obtain ⟨r, hr⟩ := head_byte h0
  rw [hr] at h
  unfold pre at h
  rw [List.isPrefixOf_iff_prefix, List.cons_prefix_cons] at h
  exact h.1.symm
theorem pre_no {c : UInt8} {s : ByteArray} (h0 : 0 < s.size) (h : pre [c] s.data.toList = false) : ¬ s[0] = c := by
  obtain ⟨r, hr⟩ := head_byte h0
  rw [hr, pre_one] at h
  simpa using h
theorem pre_sub {l : Bs} (h : pre [36, 40, 40] l = true) : pre [36, 40] l = true := by
  unfold pre at h ⊢
  rw [List.isPrefixOf_iff_prefix] at h ⊢
  exact List.IsPrefix.trans ⟨[40], rfl⟩ h
theorem pre_len {p l : Bs} (h : pre p l = true) : p.length ≤ l.length := by
  unfold pre at h
  rw [List.isPrefixOf_iff_prefix] at h
  exact h.length_le
theorem beg_call (x : ByteArray) (p : Bs) (v : Bool) (hv : pre p x.data.toList = v) (hs : x.size ≤ maxLen) (hp : p.length ≤ 100) (w : World) :
    Calls Try.prog 16 #[.string x, .string (st p)] w fun e w' => e = .returned (.bool v) ∧ w' = w := by
  have := rbegins_any x (st p) hs (by rw [st_size]; unfold maxLen; omega) w
  rw [st_data, hv] at this
  exact this
theorem nonempty_of {x : ByteArray} {q : Bool} {k : Kd} {l : Bs} {b : Nat} (hx : x.data.toList = l.drop b) (hk : kd q (l.drop b) = some k) : 0 < x.size := by
  rw [← hx] at hk
  have := kd_len _ _ _ hk
  rw [size_len] at this
  have h1 : 0 < (kb (some k)).length := by cases k <;> simp [kb]
  omega
theorem ne_list {x : ByteArray} (h : 0 < x.size) : ((x.toList == []) : Bool) = false := by
  rw [ByteArray.toList_eq, beq_eq_false_iff_ne]
  intro e
  have := size_len x
  rw [e] at this
  simp at this
  omega
theorem yes_list {x : ByteArray} (h : x.size = 0) : ((x.toList == []) : Bool) = true := by
  rw [ByteArray.toList_eq, beq_iff_eq]
  have := size_len x
  exact List.length_eq_zero_iff.1 (by omega)
def lpRel (W : World) (x : ByteArray) (b : Nat) (F : Bs → Option Nat) (r : R) (iv : Value) (wr : World) : Prop :=
  ∃ i : Nat, iv = .int .i64 i ∧ EKP wr W.heap.size 0 false false 0 ∧ Fr (fun _ => False) W wr ∧ i ≤ x.size + 1 ∧ lift (b + i) (F (x.data.toList.drop i)) = r
def arpRel (W : World) (x : ByteArray) (b : Nat) (r : R) (ov iv : Value) (wr : World) : Prop :=
  ∃ o i : Nat, ov = .int .i64 o ∧ iv = .int .i64 i ∧ EKP wr W.heap.size 0 false false 0 ∧ Fr (fun _ => False) W wr ∧ i ≤ x.size ∧ o ≤ i ∧ lift (b + i) (ari o (x.data.toList.drop i)) = r
end Go.Proofs.Ytoahgblgchmclaa
namespace Go.Proofs.Ytoahgblgchmclaa
open Go.RowKit
set_option linter.unusedVariables false
set_option linter.unusedSimpArgs false
set_option maxRecDepth 100000 in
set_option maxHeartbeats 16000000 in
theorem zero_esc (W : World) (l : Bs) (x : ByteArray) (b : Nat) (q : Bool) (deep : Nat) (hx : x.data.toList = l.drop b) (hb : b + x.size ≤ 4611686018427387904) (hdeep : deep + 0 = 25) (hk : kd q (l.drop b) = some .esc) :
    Calls Try.prog 29 #[.string x, .bool q, .int .i64 deep, .int .i64 b] W (endPost W b (.deep b)) := by
  have h0 := nonempty_of hx hk
  have hne := ne_list h0
  have hxm : x.size ≤ maxLen := by unfold maxLen; omega
  have HBL := Lib.hid (base_len hx)
  rw [← hx, kd_pre] at hk
  have hc : x[0] = 92 := pre_head' h0 (pick_esc _ _ _ _ _ _ _ _ hk)
  have g92 : (((x[0].toNat : Int) == 92) : Bool) = true := u8_true x[0] 92 hc
  have g96 : (((x[0].toNat : Int) == 96) : Bool) = false := u8_false x[0] 96 (by rw [hc]; decide)
  have g39 : (((x[0].toNat : Int) == 39) : Bool) = false := u8_false x[0] 39 (by rw [hc]; decide)
  have g34 : (((x[0].toNat : Int) == 34) : Bool) = false := u8_false x[0] 34 (by rw [hc]; decide)
  have HX := Lib.hid hx
  have HXM := Lib.hid hxm
  unfold maxLen at hxm
  have HE := Lib.hid (show EKP (W.alloc (.cells #[.int .i64 0, .bool false, .bool false, .int .i64 0] 51)) W.heap.size 0 false false 0 from heap_alloc_new W _)
  have HF := Lib.hid ((Fr.refl (fun _ => False) W).alloc (.cells #[.int .i64 0, .bool false, .bool false, .int .i64 0] 51))
  clear hk hx hc
  obtain rfl : deep = 25 := by omega
  cases q
  all_goals
    go_enter Try.func29, Try.ntmps29
    go_wp2
    exact bodyPost_ret (resEnds Try.f29 8 rfl (show EKP (W.alloc (.cells #[.int .i64 0, .bool false, .bool true, .int .i64 b] 51)) W.heap.size 0 false true b from heap_alloc_new W _) _ rfl) rfl ⟨rfl, (Fr.refl _ W).alloc _⟩
set_option maxRecDepth 100000 in
set_option maxHeartbeats 16000000 in
theorem zero_sq (W : World) (l : Bs) (x : ByteArray) (b : Nat) (q : Bool) (deep : Nat) (hx : x.data.toList = l.drop b) (hb : b + x.size ≤ 4611686018427387904) (hdeep : deep + 0 = 25) (hk : kd q (l.drop b) = some .sq) :
    Calls Try.prog 29 #[.string x, .bool q, .int .i64 deep, .int .i64 b] W (endPost W b (.deep b)) := by
  have h0 := nonempty_of hx hk
  have hne := ne_list h0
  have hxm : x.size ≤ maxLen := by unfold maxLen; omega
  have HBL := Lib.hid (base_len hx)
  rw [← hx, kd_pre] at hk
  have hc : x[0] = 39 := pre_head' h0 (pick_sq _ _ _ _ _ _ _ _ hk).1
  have g92 : (((x[0].toNat : Int) == 92) : Bool) = false := u8_false x[0] 92 (by rw [hc]; decide)
  have g96 : (((x[0].toNat : Int) == 96) : Bool) = false := u8_false x[0] 96 (by rw [hc]; decide)
  have g39 : (((x[0].toNat : Int) == 39) : Bool) = true := u8_true x[0] 39 hc
  have g34 : (((x[0].toNat : Int) == 34) : Bool) = false := u8_false x[0] 34 (by rw [hc]; decide)
  have hq : q = false := (pick_sq _ _ _ _ _ _ _ _ hk).2
  subst hq
  have HX := Lib.hid hx
  have HXM := Lib.hid hxm
  unfold maxLen at hxm
  have HE := Lib.hid (show EKP (W.alloc (.cells #[.int .i64 0, .bool false, .bool false, .int .i64 0] 51)) W.heap.size 0 false false 0 from heap_alloc_new W _)
  have HF := Lib.hid ((Fr.refl (fun _ => False) W).alloc (.cells #[.int .i64 0, .bool false, .bool false, .int .i64 0] 51))
  clear hk hx hc
  obtain rfl : deep = 25 := by omega
  all_goals
    go_enter Try.func29, Try.ntmps29
    go_wp2
    exact bodyPost_ret (resEnds Try.f29 8 rfl (show EKP (W.alloc (.cells #[.int .i64 0, .bool false, .bool true, .int .i64 b] 51)) W.heap.size 0 false true b from heap_alloc_new W _) _ rfl) rfl ⟨rfl, (Fr.refl _ W).alloc _⟩
set_option maxRecDepth 100000 in
set_option maxHeartbeats 16000000 in
theorem zero_dq (W : World) (l : Bs) (x : ByteArray) (b : Nat) (q : Bool) (deep : Nat) (hx : x.data.toList = l.drop b) (hb : b + x.size ≤ 4611686018427387904) (hdeep : deep + 0 = 25) (hk : kd q (l.drop b) = some .dq) :
    Calls Try.prog 29 #[.string x, .bool q, .int .i64 deep, .int .i64 b] W (endPost W b (.deep b)) := by
  have h0 := nonempty_of hx hk
  have hne := ne_list h0
  have hxm : x.size ≤ maxLen := by unfold maxLen; omega
  have HBL := Lib.hid (base_len hx)
  rw [← hx, kd_pre] at hk
  have hc : x[0] = 34 := pre_head' h0 (pick_dq _ _ _ _ _ _ _ _ hk).1
  have g92 : (((x[0].toNat : Int) == 92) : Bool) = false := u8_false x[0] 92 (by rw [hc]; decide)
  have g96 : (((x[0].toNat : Int) == 96) : Bool) = false := u8_false x[0] 96 (by rw [hc]; decide)
  have g39 : (((x[0].toNat : Int) == 39) : Bool) = false := u8_false x[0] 39 (by rw [hc]; decide)
  have g34 : (((x[0].toNat : Int) == 34) : Bool) = true := u8_true x[0] 34 hc
  have hq : q = false := (pick_dq _ _ _ _ _ _ _ _ hk).2
  subst hq
  have HX := Lib.hid hx
  have HXM := Lib.hid hxm
  unfold maxLen at hxm
  have HE := Lib.hid (show EKP (W.alloc (.cells #[.int .i64 0, .bool false, .bool false, .int .i64 0] 51)) W.heap.size 0 false false 0 from heap_alloc_new W _)
  have HF := Lib.hid ((Fr.refl (fun _ => False) W).alloc (.cells #[.int .i64 0, .bool false, .bool false, .int .i64 0] 51))
  clear hk hx hc
  obtain rfl : deep = 25 := by omega
  all_goals
    go_enter Try.func29, Try.ntmps29
    go_wp2
    exact bodyPost_ret (resEnds Try.f29 8 rfl (show EKP (W.alloc (.cells #[.int .i64 0, .bool false, .bool true, .int .i64 b] 51)) W.heap.size 0 false true b from heap_alloc_new W _) _ rfl) rfl ⟨rfl, (Fr.refl _ W).alloc _⟩
set_option maxRecDepth 100000 in
set_option maxHeartbeats 16000000 in
theorem zero_ar (W : World) (l : Bs) (x : ByteArray) (b : Nat) (q : Bool) (deep : Nat) (hx : x.data.toList = l.drop b) (hb : b + x.size ≤ 4611686018427387904) (hdeep : deep + 0 = 25) (hk : kd q (l.drop b) = some .ar) :
    Calls Try.prog 29 #[.string x, .bool q, .int .i64 deep, .int .i64 b] W (endPost W b (.deep b)) := by
  have h0 := nonempty_of hx hk
  have hne := ne_list h0
  have hxm : x.size ≤ maxLen := by unfold maxLen; omega
  have HBL := Lib.hid (base_len hx)
  rw [← hx, kd_pre] at hk
  have hc : x[0] = 36 := pre_head' h0 (pick_ar _ _ _ _ _ _ _ _ hk)
  have g92 : (((x[0].toNat : Int) == 92) : Bool) = false := u8_false x[0] 92 (by rw [hc]; decide)
  have g96 : (((x[0].toNat : Int) == 96) : Bool) = false := u8_false x[0] 96 (by rw [hc]; decide)
  have g39 : (((x[0].toNat : Int) == 39) : Bool) = false := u8_false x[0] 39 (by rw [hc]; decide)
  have g34 : (((x[0].toNat : Int) == 34) : Bool) = false := u8_false x[0] 34 (by rw [hc]; decide)
  have h40 := pick_ar _ _ _ _ _ _ _ _ hk
  have B1 := Lib.hid (fun w => (show Calls Try.prog 16 #[.string x, .string ⟨#[36, 40]⟩] w fun e w' => e = .returned (.bool true) ∧ w' = w from beg_call x [36, 40] true (pre_sub h40) hxm (by decide) w))
  have B3 := Lib.hid (fun w => (show Calls Try.prog 16 #[.string x, .string ⟨#[36, 40, 40]⟩] w fun e w' => e = .returned (.bool true) ∧ w' = w from beg_call x [36, 40, 40] true h40 hxm (by decide) w))
  have hl3 : 3 ≤ x.size := by have := pre_len h40; rw [size_len] at this; exact this
  clear h40
  have HX := Lib.hid hx
  have HXM := Lib.hid hxm
  unfold maxLen at hxm
  have HE := Lib.hid (show EKP (W.alloc (.cells #[.int .i64 0, .bool false, .bool false, .int .i64 0] 51)) W.heap.size 0 false false 0 from heap_alloc_new W _)
  have HF := Lib.hid ((Fr.refl (fun _ => False) W).alloc (.cells #[.int .i64 0, .bool false, .bool false, .int .i64 0] 51))
  clear hk hx hc
  obtain rfl : deep = 25 := by omega
  cases q
  all_goals
    go_enter Try.func29, Try.ntmps29
    go_wp2_with (first | (go_at_call 16; (with_reducible refine (B1.out _).mono ?_); rintro e w' ⟨rfl, rfl⟩) | (go_at_call 16; (with_reducible refine (B3.out _).mono ?_); rintro e w' ⟨rfl, rfl⟩))
    exact bodyPost_ret (resEnds Try.f29 8 rfl (show EKP (W.alloc (.cells #[.int .i64 0, .bool false, .bool true, .int .i64 b] 51)) W.heap.size 0 false true b from heap_alloc_new W _) _ rfl) rfl ⟨rfl, (Fr.refl _ W).alloc _⟩
set_option maxRecDepth 100000 in
set_option maxHeartbeats 16000000 in
theorem zero_su (W : World) (l : Bs) (x : ByteArray) (b : Nat) (q : Bool) (deep : Nat) (hx : x.data.toList = l.drop b) (hb : b + x.size ≤ 4611686018427387904) (hdeep : deep + 0 = 25) (hk : kd q (l.drop b) = some .su) :
    Calls Try.prog 29 #[.string x, .bool q, .int .i64 deep, .int .i64 b] W (endPost W b (.deep b)) := by
  have h0 := nonempty_of hx hk
  have hne := ne_list h0
  have hxm : x.size ≤ maxLen := by unfold maxLen; omega
  have HBL := Lib.hid (base_len hx)
  rw [← hx, kd_pre] at hk
  have hc : x[0] = 36 := pre_head' h0 (pick_su _ _ _ _ _ _ _ _ hk).2
  have g92 : (((x[0].toNat : Int) == 92) : Bool) = false := u8_false x[0] 92 (by rw [hc]; decide)
  have g96 : (((x[0].toNat : Int) == 96) : Bool) = false := u8_false x[0] 96 (by rw [hc]; decide)
  have g39 : (((x[0].toNat : Int) == 39) : Bool) = false := u8_false x[0] 39 (by rw [hc]; decide)
  have g34 : (((x[0].toNat : Int) == 34) : Bool) = false := u8_false x[0] 34 (by rw [hc]; decide)
  obtain ⟨h4, h5⟩ := pick_su _ _ _ _ _ _ _ _ hk
  have B1 := Lib.hid (fun w => (show Calls Try.prog 16 #[.string x, .string ⟨#[36, 40]⟩] w fun e w' => e = .returned (.bool true) ∧ w' = w from beg_call x [36, 40] true h5 hxm (by decide) w))
  have B3 := Lib.hid (fun w => (show Calls Try.prog 16 #[.string x, .string ⟨#[36, 40, 40]⟩] w fun e w' => e = .returned (.bool false) ∧ w' = w from beg_call x [36, 40, 40] false h4 hxm (by decide) w))
  have hl3 : 2 ≤ x.size := by have := pre_len h5; rw [size_len] at this; exact this
  clear h4 h5
  have HX := Lib.hid hx
  have HXM := Lib.hid hxm
  unfold maxLen at hxm
  have HE := Lib.hid (show EKP (W.alloc (.cells #[.int .i64 0, .bool false, .bool false, .int .i64 0] 51)) W.heap.size 0 false false 0 from heap_alloc_new W _)
  have HF := Lib.hid ((Fr.refl (fun _ => False) W).alloc (.cells #[.int .i64 0, .bool false, .bool false, .int .i64 0] 51))
  clear hk hx hc
  obtain rfl : deep = 25 := by omega
  cases q
  all_goals
    go_enter Try.func29, Try.ntmps29
    go_wp2_with (first | (go_at_call 16; (with_reducible refine (B1.out _).mono ?_); rintro e w' ⟨rfl, rfl⟩) | (go_at_call 16; (with_reducible refine (B3.out _).mono ?_); rintro e w' ⟨rfl, rfl⟩))
    exact bodyPost_ret (resEnds Try.f29 8 rfl (show EKP (W.alloc (.cells #[.int .i64 0, .bool false, .bool true, .int .i64 b] 51)) W.heap.size 0 false true b from heap_alloc_new W _) _ rfl) rfl ⟨rfl, (Fr.refl _ W).alloc _⟩
set_option maxRecDepth 100000 in
set_option maxHeartbeats 16000000 in
theorem zero_pa (W : World) (l : Bs) (x : ByteArray) (b : Nat) (q : Bool) (deep : Nat) (hx : x.data.toList = l.drop b) (hb : b + x.size ≤ 4611686018427387904) (hdeep : deep + 0 = 25) (hk : kd q (l.drop b) = some .pa) :
    Calls Try.prog 29 #[.string x, .bool q, .int .i64 deep, .int .i64 b] W (endPost W b (.deep b)) := by
  have h0 := nonempty_of hx hk
  have hne := ne_list h0
  have hxm : x.size ≤ maxLen := by unfold maxLen; omega
  have HBL := Lib.hid (base_len hx)
  rw [← hx, kd_pre] at hk
  have hc : x[0] = 36 := pre_head' h0 (pick_pa _ _ _ _ _ _ _ _ hk).2.2
  have g92 : (((x[0].toNat : Int) == 92) : Bool) = false := u8_false x[0] 92 (by rw [hc]; decide)
  have g96 : (((x[0].toNat : Int) == 96) : Bool) = false := u8_false x[0] 96 (by rw [hc]; decide)
  have g39 : (((x[0].toNat : Int) == 39) : Bool) = false := u8_false x[0] 39 (by rw [hc]; decide)
  have g34 : (((x[0].toNat : Int) == 34) : Bool) = false := u8_false x[0] 34 (by rw [hc]; decide)
  obtain ⟨h4, h5, h6⟩ := pick_pa _ _ _ _ _ _ _ _ hk
  have B1 := Lib.hid (fun w => (show Calls Try.prog 16 #[.string x, .string ⟨#[36, 40]⟩] w fun e w' => e = .returned (.bool false) ∧ w' = w from beg_call x [36, 40] false h5 hxm (by decide) w))
  have B2 := Lib.hid (fun w => (show Calls Try.prog 16 #[.string x, .string ⟨#[36, 123]⟩] w fun e w' => e = .returned (.bool true) ∧ w' = w from beg_call x [36, 123] true h6 hxm (by decide) w))
  have B3 := Lib.hid (fun w => (show Calls Try.prog 16 #[.string x, .string ⟨#[36, 40, 40]⟩] w fun e w' => e = .returned (.bool false) ∧ w' = w from beg_call x [36, 40, 40] false h4 hxm (by decide) w))
  have hl3 : 2 ≤ x.size := by have := pre_len h6; rw [size_len] at this; exact this
  clear h4 h5 h6
  have HX := Lib.hid hx
  have HXM := Lib.hid hxm
  unfold maxLen at hxm
  have HE := Lib.hid (show EKP (W.alloc (.cells #[.int .i64 0, .bool false, .bool false, .int .i64 0] 51)) W.heap.size 0 false false 0 from heap_alloc_new W _)
  have HF := Lib.hid ((Fr.refl (fun _ => False) W).alloc (.cells #[.int .i64 0, .bool false, .bool false, .int .i64 0] 51))
  clear hk hx hc
  obtain rfl : deep = 25 := by omega
  cases q
  all_goals
    go_enter Try.func29, Try.ntmps29
    go_wp2_with (first | (go_at_call 16; (with_reducible refine (B1.out _).mono ?_); rintro e w' ⟨rfl, rfl⟩) | (go_at_call 16; (with_reducible refine (B2.out _).mono ?_); rintro e w' ⟨rfl, rfl⟩) | (go_at_call 16; (with_reducible refine (B3.out _).mono ?_); rintro e w' ⟨rfl, rfl⟩))
    exact bodyPost_ret (resEnds Try.f29 8 rfl (show EKP (W.alloc (.cells #[.int .i64 0, .bool false, .bool true, .int .i64 b] 51)) W.heap.size 0 false true b from heap_alloc_new W _) _ rfl) rfl ⟨rfl, (Fr.refl _ W).alloc _⟩
set_option maxRecDepth 100000 in
set_option maxHeartbeats 16000000 in
theorem zero_gr (W : World) (l : Bs) (x : ByteArray) (b : Nat) (q : Bool) (deep : Nat) (hx : x.data.toList = l.drop b) (hb : b + x.size ≤ 4611686018427387904) (hdeep : deep + 0 = 25) (hk : kd q (l.drop b) = some .gr) :
    Calls Try.prog 29 #[.string x, .bool q, .int .i64 deep, .int .i64 b] W (endPost W b (.deep b)) := by
  have h0 := nonempty_of hx hk
  have hne := ne_list h0
  have hxm : x.size ≤ maxLen := by unfold maxLen; omega
  have HBL := Lib.hid (base_len hx)
  rw [← hx, kd_pre] at hk
  have hc : x[0] = 96 := pre_head' h0 (pick_gr _ _ _ _ _ _ _ _ hk)
  have g92 : (((x[0].toNat : Int) == 92) : Bool) = false := u8_false x[0] 92 (by rw [hc]; decide)
  have g96 : (((x[0].toNat : Int) == 96) : Bool) = true := u8_true x[0] 96 hc
  have g39 : (((x[0].toNat : Int) == 39) : Bool) = false := u8_false x[0] 39 (by rw [hc]; decide)
  have g34 : (((x[0].toNat : Int) == 34) : Bool) = false := u8_false x[0] 34 (by rw [hc]; decide)
  have HX := Lib.hid hx
  have HXM := Lib.hid hxm
  unfold maxLen at hxm
  have HE := Lib.hid (show EKP (W.alloc (.cells #[.int .i64 0, .bool false, .bool false, .int .i64 0] 51)) W.heap.size 0 false false 0 from heap_alloc_new W _)
  have HF := Lib.hid ((Fr.refl (fun _ => False) W).alloc (.cells #[.int .i64 0, .bool false, .bool false, .int .i64 0] 51))
  clear hk hx hc
  obtain rfl : deep = 25 := by omega
  cases q
  all_goals
    go_enter Try.func29, Try.ntmps29
    go_wp2
    exact bodyPost_ret (resEnds Try.f29 8 rfl (show EKP (W.alloc (.cells #[.int .i64 0, .bool false, .bool true, .int .i64 b] 51)) W.heap.size 0 false true b from heap_alloc_new W _) _ rfl) rfl ⟨rfl, (Fr.refl _ W).alloc _⟩
end Go.Proofs.Ytoahgblgchmclaa
namespace Go.Proofs.Ytoahgblgchmclaa
open Go.RowKit
set_option linter.unusedVariables false
set_option linter.unusedSimpArgs false
set_option maxRecDepth 100000 in
set_option maxHeartbeats 16000000 in
theorem succ_esc (d : Nat) (W : World) (l : Bs) (x : ByteArray) (b : Nat) (q : Bool) (deep : Nat) (hx : x.data.toList = l.drop b) (hb : b + x.size ≤ 4611686018427387904) (hdeep : deep + (d + 1) = 25) (hk : kd q (l.drop b) = some .esc) :
    Calls Try.prog 29 #[.string x, .bool q, .int .i64 deep, .int .i64 b] W (endPost W b (if b + 1 < l.length then .ok (b + 2) else .more)) := by
  have h0 := nonempty_of hx hk
  have hne := ne_list h0
  have hxm : x.size ≤ maxLen := by unfold maxLen; omega
  have HBL := Lib.hid (base_len hx)
  rw [← hx, kd_pre] at hk
  have hc : x[0] = 92 := pre_head' h0 (pick_esc _ _ _ _ _ _ _ _ hk)
  have g92 : (((x[0].toNat : Int) == 92) : Bool) = true := u8_true x[0] 92 hc
  have g96 : (((x[0].toNat : Int) == 96) : Bool) = false := u8_false x[0] 96 (by rw [hc]; decide)
  have g39 : (((x[0].toNat : Int) == 39) : Bool) = false := u8_false x[0] 39 (by rw [hc]; decide)
  have g34 : (((x[0].toNat : Int) == 34) : Bool) = false := u8_false x[0] 34 (by rw [hc]; decide)
  have HX := Lib.hid hx
  have HXM := Lib.hid hxm
  unfold maxLen at hxm
  have HE := Lib.hid (show EKP (W.alloc (.cells #[.int .i64 0, .bool false, .bool false, .int .i64 0] 51)) W.heap.size 0 false false 0 from heap_alloc_new W _)
  have HF := Lib.hid ((Fr.refl (fun _ => False) W).alloc (.cells #[.int .i64 0, .bool false, .bool false, .int .i64 0] 51))
  clear hk hx hc
  have hd24 : deep ≤ 24 := by omega
  by_cases h1 : b + 1 < l.length
  · rw [if_pos h1]
    have hx2 : 2 ≤ x.size := by have := HBL.out; omega
    cases q
    all_goals
      go_enter Try.func29, Try.ntmps29
      go_wp2
      refine bodyPost_ret (resEnds Try.f29 8 rfl (show EKP (W.alloc (.cells #[.int .i64 2, .bool false, .bool false, .int .i64 0] 51)) W.heap.size 2 false false 0 from heap_alloc_new W _) _ rfl) rfl ⟨?_, (Fr.refl _ W).alloc _⟩
      rw [show enN b (.ok (b + 2)) = 2 from Nat.add_sub_cancel_left _ _]; rfl
  · rw [if_neg h1]
    have hx2 : x.size < 2 := by have := HBL.out; omega
    cases q
    all_goals
      go_enter Try.func29, Try.ntmps29
      go_wp2
      exact bodyPost_ret (resEnds Try.f29 8 rfl (show EKP (W.alloc (.cells #[.int .i64 0, .bool true, .bool false, .int .i64 0] 51)) W.heap.size 0 true false 0 from heap_alloc_new W _) _ rfl) rfl ⟨rfl, (Fr.refl _ W).alloc _⟩
set_option maxRecDepth 100000 in
set_option maxHeartbeats 16000000 in
theorem succ_sq (d : Nat) (W : World) (l : Bs) (x : ByteArray) (b : Nat) (q : Bool) (deep : Nat) (hx : x.data.toList = l.drop b) (hb : b + x.size ≤ 4611686018427387904) (hdeep : deep + (d + 1) = 25) (hk : kd q (l.drop b) = some .sq) :
    Calls Try.prog 29 #[.string x, .bool q, .int .i64 deep, .int .i64 b] W (endPost W b (lift (b + 1) (toQ 39 (l.drop (b + 1))))) := by
  have h0 := nonempty_of hx hk
  have hne := ne_list h0
  have hxm : x.size ≤ maxLen := by unfold maxLen; omega
  have HBL := Lib.hid (base_len hx)
  rw [← hx, kd_pre] at hk
  have hc : x[0] = 39 := pre_head' h0 (pick_sq _ _ _ _ _ _ _ _ hk).1
  have g92 : (((x[0].toNat : Int) == 92) : Bool) = false := u8_false x[0] 92 (by rw [hc]; decide)
  have g96 : (((x[0].toNat : Int) == 96) : Bool) = false := u8_false x[0] 96 (by rw [hc]; decide)
  have g39 : (((x[0].toNat : Int) == 39) : Bool) = true := u8_true x[0] 39 hc
  have g34 : (((x[0].toNat : Int) == 34) : Bool) = false := u8_false x[0] 34 (by rw [hc]; decide)
  have hq : q = false := (pick_sq _ _ _ _ _ _ _ _ hk).2
  subst hq
  have HX := Lib.hid hx
  have HXM := Lib.hid hxm
  unfold maxLen at hxm
  have HE := Lib.hid (show EKP (W.alloc (.cells #[.int .i64 0, .bool false, .bool false, .int .i64 0] 51)) W.heap.size 0 false false 0 from heap_alloc_new W _)
  have HF := Lib.hid ((Fr.refl (fun _ => False) W).alloc (.cells #[.int .i64 0, .bool false, .bool false, .int .i64 0] 51))
  clear hk hx hc
  have hd24 : deep ≤ 24 := by omega
  obtain ⟨r, hr⟩ : ∃ r, lift (b + 1) (toQ 39 (l.drop (b + 1))) = r := ⟨_, rfl⟩
  rw [hr]
  rw [drop_base HX.out 1] at hr
  have HR0 := Lib.hid hr
  clear hr
  go_enter Try.func29, Try.ntmps29
  go_wp2
  go_loopw [11] (fun iv wr => lpRel W x b (toQ 39) r iv wr) (fun iv _ => x.size + 1 - (intOf iv).toNat)
  case atStart => exact ⟨1, rfl, HE.out, HF.out, by omega, HR0.out⟩
  case round =>
    obtain ⟨i, rfl, hE, hF, hi, hr⟩ := hrel
    clear HE HF HR0
    have HE := Lib.hid hE
    have HF := Lib.hid hF
    obtain ⟨e0, e1, e2, e3, ef0, ef1, ef2, ef3⟩ := hE.cells
    clear hE hF
    by_cases his : i < x.size
    · rw [at_byte his, toQ] at hr
      by_cases hc : x[i] = 39
      · have g := (show (((x[i].toNat : Int) == 39) : Bool) = true from u8_true x[i] 39 hc)
        rw [if_pos hc] at hr
        have HV := Lib.hid hr
        clear hr hc
        go_wp2
        refine bodyPost_ret (resEnds Try.f29 8 rfl (HE.out.all (i + 1) false false 0) _ rfl) rfl ⟨?_, HF.out.four (Nat.le_refl _) _ _ _ _⟩
        rw [← HV.out, show lift (b + i) (some 1) = .ok (b + i + 1) from rfl, show enN b (.ok (b + i + 1)) = i + 1 from by show b + i + 1 - b = i + 1; omega]; rfl
      · have g := (show (((x[i].toNat : Int) == 39) : Bool) = false from u8_false x[i] 39 hc)
        rw [if_neg hc, lift_succ] at hr
        have HV := Lib.hid hr
        clear hr hc
        go_wp2
        go_roundw
        case rel => exact ⟨i + 1, by go_num, HE.out, HF.out, by omega, HV.out⟩
        case measure => simp [intOf]; omega
    · rw [List.drop_eq_nil_of_le (by rw [size_len]; omega), toQ] at hr
      subst hr
      go_wp2
      exact bodyPost_ret (resEnds Try.f29 8 rfl (HE.out.all 0 true false 0) _ rfl) rfl ⟨rfl, HF.out.four (Nat.le_refl _) _ _ _ _⟩
set_option maxRecDepth 100000 in
set_option maxHeartbeats 16000000 in
theorem succ_gr (d : Nat) (W : World) (l : Bs) (x : ByteArray) (b : Nat) (q : Bool) (deep : Nat) (hx : x.data.toList = l.drop b) (hb : b + x.size ≤ 4611686018427387904) (hdeep : deep + (d + 1) = 25) (hk : kd q (l.drop b) = some .gr) :
    Calls Try.prog 29 #[.string x, .bool q, .int .i64 deep, .int .i64 b] W (endPost W b (lift (b + 1) (grv (l.drop (b + 1))))) := by
  have h0 := nonempty_of hx hk
  have hne := ne_list h0
  have hxm : x.size ≤ maxLen := by unfold maxLen; omega
  have HBL := Lib.hid (base_len hx)
  rw [← hx, kd_pre] at hk
  have hc : x[0] = 96 := pre_head' h0 (pick_gr _ _ _ _ _ _ _ _ hk)
  have g92 : (((x[0].toNat : Int) == 92) : Bool) = false := u8_false x[0] 92 (by rw [hc]; decide)
  have g96 : (((x[0].toNat : Int) == 96) : Bool) = true := u8_true x[0] 96 hc
  have g39 : (((x[0].toNat : Int) == 39) : Bool) = false := u8_false x[0] 39 (by rw [hc]; decide)
  have g34 : (((x[0].toNat : Int) == 34) : Bool) = false := u8_false x[0] 34 (by rw [hc]; decide)
  have HX := Lib.hid hx
  have HXM := Lib.hid hxm
  unfold maxLen at hxm
  have HE := Lib.hid (show EKP (W.alloc (.cells #[.int .i64 0, .bool false, .bool false, .int .i64 0] 51)) W.heap.size 0 false false 0 from heap_alloc_new W _)
  have HF := Lib.hid ((Fr.refl (fun _ => False) W).alloc (.cells #[.int .i64 0, .bool false, .bool false, .int .i64 0] 51))
  clear hk hx hc
  have hd24 : deep ≤ 24 := by omega
  obtain ⟨r, hr⟩ : ∃ r, lift (b + 1) (grv (l.drop (b + 1))) = r := ⟨_, rfl⟩
  rw [hr]
  rw [drop_base HX.out 1] at hr
  have HR0 := Lib.hid hr
  clear hr
  go_enter Try.func29, Try.ntmps29
  go_wp2
  go_loopw [12] (fun iv wr => lpRel W x b grv r iv wr) (fun iv _ => x.size + 1 - (intOf iv).toNat)
  case atStart => exact ⟨1, rfl, HE.out, HF.out, by omega, HR0.out⟩
  case round =>
    obtain ⟨i, rfl, hE, hF, hi, hr⟩ := hrel
    clear HE HF HR0
    have HE := Lib.hid hE
    have HF := Lib.hid hF
    obtain ⟨e0, e1, e2, e3, ef0, ef1, ef2, ef3⟩ := hE.cells
    clear hE hF
    by_cases his : i < x.size
    · rw [at_byte his] at hr
      by_cases hc : x[i] = 92
      · have g := (show (((x[i].toNat : Int) == 92) : Bool) = true from u8_true x[i] 92 hc)
        have hr2 : lift (b + (i + 2)) (grv (x.data.toList.drop (i + 2))) = r := by
          by_cases h2 : i + 1 < x.size
          · rw [at_byte h2, hc, grv_two, if_neg (by decide), if_pos rfl, lift_succ2] at hr
            exact hr
          · rw [List.drop_eq_nil_of_le (by rw [size_len]; omega), hc, grv_one, if_neg (by decide)] at hr
            rw [List.drop_eq_nil_of_le (by rw [size_len]; omega), grv_nil, ← hr]; rfl
        have HV := Lib.hid hr2
        clear hr hr2 hc
        go_wp2
        go_roundw
        case rel => exact ⟨i + 2, by go_num, HE.out, HF.out, by omega, HV.out⟩
        case measure => simp [intOf]; omega
      · have g := (show (((x[i].toNat : Int) == 92) : Bool) = false from u8_false x[i] 92 hc)
        rw [grv_cons _ _ hc] at hr
        by_cases h96 : x[i] = 96
        · have g2 := (show (((x[i].toNat : Int) == 96) : Bool) = true from u8_true x[i] 96 h96)
          rw [if_pos h96] at hr
          have HV := Lib.hid hr
          clear hr hc h96
          go_wp2
          refine bodyPost_ret (resEnds Try.f29 8 rfl (HE.out.all (i + 1) false false 0) _ rfl) rfl ⟨?_, HF.out.four (Nat.le_refl _) _ _ _ _⟩
          rw [← HV.out, show lift (b + i) (some 1) = .ok (b + i + 1) from rfl, show enN b (.ok (b + i + 1)) = i + 1 from by show b + i + 1 - b = i + 1; omega]; rfl
        · have g2 := (show (((x[i].toNat : Int) == 96) : Bool) = false from u8_false x[i] 96 h96)
          rw [if_neg h96, lift_succ] at hr
          have HV := Lib.hid hr
          clear hr hc h96
          go_wp2
          go_roundw
          case rel => exact ⟨i + 1, by go_num, HE.out, HF.out, by omega, HV.out⟩
          case measure => simp [intOf]; omega
    · rw [List.drop_eq_nil_of_le (by rw [size_len]; omega), grv_nil] at hr
      subst hr
      go_wp2
      exact bodyPost_ret (resEnds Try.f29 8 rfl (HE.out.all 0 true false 0) _ rfl) rfl ⟨rfl, HF.out.four (Nat.le_refl _) _ _ _ _⟩
end Go.Proofs.Ytoahgblgchmclaa
namespace Go.Proofs.Ytoahgblgchmclaa
open Go.RowKit
set_option linter.unusedVariables false
set_option linter.unusedSimpArgs false
set_option maxRecDepth 100000 in
set_option maxHeartbeats 16000000 in
theorem succ_ar (d : Nat) (W : World) (l : Bs) (x : ByteArray) (b : Nat) (q : Bool) (deep : Nat) (hx : x.data.toList = l.drop b) (hb : b + x.size ≤ 4611686018427387904) (hdeep : deep + (d + 1) = 25) (hk : kd q (l.drop b) = some .ar) :
    Calls Try.prog 29 #[.string x, .bool q, .int .i64 deep, .int .i64 b] W (endPost W b (lift (b + 3) (ari 0 (l.drop (b + 3))))) := by
  have h0 := nonempty_of hx hk
  have hne := ne_list h0
  have hxm : x.size ≤ maxLen := by unfold maxLen; omega
  have HBL := Lib.hid (base_len hx)
  rw [← hx, kd_pre] at hk
  have hc : x[0] = 36 := pre_head' h0 (pick_ar _ _ _ _ _ _ _ _ hk)
  have g92 : (((x[0].toNat : Int) == 92) : Bool) = false := u8_false x[0] 92 (by rw [hc]; decide)
  have g96 : (((x[0].toNat : Int) == 96) : Bool) = false := u8_false x[0] 96 (by rw [hc]; decide)
  have g39 : (((x[0].toNat : Int) == 39) : Bool) = false := u8_false x[0] 39 (by rw [hc]; decide)
  have g34 : (((x[0].toNat : Int) == 34) : Bool) = false := u8_false x[0] 34 (by rw [hc]; decide)
  have h40 := pick_ar _ _ _ _ _ _ _ _ hk
  have B1 := Lib.hid (fun w => (show Calls Try.prog 16 #[.string x, .string ⟨#[36, 40]⟩] w fun e w' => e = .returned (.bool true) ∧ w' = w from beg_call x [36, 40] true (pre_sub h40) hxm (by decide) w))
  have B3 := Lib.hid (fun w => (show Calls Try.prog 16 #[.string x, .string ⟨#[36, 40, 40]⟩] w fun e w' => e = .returned (.bool true) ∧ w' = w from beg_call x [36, 40, 40] true h40 hxm (by decide) w))
  have hl3 : 3 ≤ x.size := by have := pre_len h40; rw [size_len] at this; exact this
  clear h40
  have HX := Lib.hid hx
  have HXM := Lib.hid hxm
  unfold maxLen at hxm
  have HE := Lib.hid (show EKP (W.alloc (.cells #[.int .i64 0, .bool false, .bool false, .int .i64 0] 51)) W.heap.size 0 false false 0 from heap_alloc_new W _)
  have HF := Lib.hid ((Fr.refl (fun _ => False) W).alloc (.cells #[.int .i64 0, .bool false, .bool false, .int .i64 0] 51))
  clear hk hx hc
  have hd24 : deep ≤ 24 := by omega
  cases q
  all_goals
    obtain ⟨r, hr⟩ : ∃ r, lift (b + 3) (ari 0 (l.drop (b + 3))) = r := ⟨_, rfl⟩
    rw [hr]
    rw [drop_base HX.out 3] at hr
    have HR0 := Lib.hid hr
    clear hr
    go_enter Try.func29, Try.ntmps29
    go_wp2_with (first | (go_at_call 16; (with_reducible refine (B1.out _).mono ?_); rintro e w' ⟨rfl, rfl⟩) | (go_at_call 16; (with_reducible refine (B3.out _).mono ?_); rintro e w' ⟨rfl, rfl⟩))
    go_loopw [13, 14] (fun ov iv wr => arpRel W x b r ov iv wr) (fun _ iv _ => x.size - (intOf iv).toNat)
    case atStart => exact ⟨0, 3, rfl, rfl, HE.out, HF.out, hl3, by omega, HR0.out⟩
    case round =>
      obtain ⟨o, i, rfl, rfl, hE, hF, hi, ho, hr⟩ := hrel
      clear HE HF HR0
      have HE := Lib.hid hE
      have HF := Lib.hid hF
      obtain ⟨e0, e1, e2, e3, ef0, ef1, ef2, ef3⟩ := hE.cells
      clear hE hF
      by_cases his : i < x.size
      · rw [at_byte his, ari_cons] at hr
        by_cases h40 : x[i] = 40
        · have g := (show (((x[i].toNat : Int) == 40) : Bool) = true from u8_true x[i] 40 h40)
          rw [if_pos h40, lift_succ] at hr
          have HV := Lib.hid hr
          clear hr h40
          go_wp2
          go_roundw
          case rel => exact ⟨o + 1, i + 1, by go_num, by go_num, HE.out, HF.out, his, by omega, HV.out⟩
          case measure => simp [intOf]; omega
        · have g := (show (((x[i].toNat : Int) == 40) : Bool) = false from u8_false x[i] 40 h40)
          rw [if_neg h40] at hr
          by_cases h41 : x[i] = 41
          · have g2 := (show (((x[i].toNat : Int) == 41) : Bool) = true from u8_true x[i] 41 h41)
            by_cases ho0 : 0 < o
            · rw [if_pos ⟨h41, ho0⟩, lift_succ] at hr
              have HV := Lib.hid hr
              clear hr h40 h41
              go_wp2
              go_roundw
              case rel => exact ⟨o - 1, i + 1, by congr 1; omega, by go_num, HE.out, HF.out, his, by omega, HV.out⟩
              case measure => simp [intOf]; omega
            · rw [if_neg (fun h => ho0 h.2)] at hr
              obtain rfl : o = 0 := by omega
              have B4 := Lib.hid (fun v hv w => (show Calls Try.prog 16 #[.string (x.extract i x.size), .string ⟨#[41, 41]⟩] w fun e w' => e = .returned (.bool v) ∧ w' = w from beg_call (x.extract i x.size) [41, 41] v hv (Nat.le_trans (by simp) HXM.out) (by decide) w))
              have hpre : pre [41, 41] (x.extract i x.size).data.toList = decide (x[i] = 41 ∧ (x.data.toList.drop (i + 1)).head? = some 41) := by
                rw [extract_drop, st_data, at_byte his, pre_two]
              by_cases h2 : (x.data.toList.drop (i + 1)).head? = some 41
              · have hi2 : i + 1 < x.size := by
                  refine Nat.lt_of_not_le fun hn => ?_
                  rw [List.drop_eq_nil_of_le (by rw [size_len]; omega)] at h2
                  simp at h2
                rw [if_pos ⟨h41, h2⟩] at hr
                have B4 := Lib.hid (B4.out true (by rw [hpre]; exact decide_eq_true ⟨h41, h2⟩))
                have HV := Lib.hid hr
                clear hr h40 h41 h2 hpre
                go_wp2_with (go_at_call 16; (with_reducible refine (B4.out _).mono ?_); rintro e w' ⟨rfl, rfl⟩)
                refine bodyPost_ret (resEnds Try.f29 8 rfl (HE.out.all (i + 2) false false 0) _ rfl) rfl ⟨?_, HF.out.four (Nat.le_refl _) _ _ _ _⟩
                rw [← HV.out, show lift (b + i) (some 2) = .ok (b + i + 2) from rfl, show enN b (.ok (b + i + 2)) = i + 2 from by show b + i + 2 - b = i + 2; omega]; rfl
              · rw [if_neg (fun h => h2 h.2), lift_succ] at hr
                have B4 := Lib.hid (B4.out false (by rw [hpre]; exact decide_eq_false (fun h => h2 h.2)))
                have HV := Lib.hid hr
                clear hr h40 h41 h2 hpre
                go_wp2_with (go_at_call 16; (with_reducible refine (B4.out _).mono ?_); rintro e w' ⟨rfl, rfl⟩)
                go_roundw
                case rel => exact ⟨0, i + 1, rfl, by go_num, HE.out, HF.out, his, by omega, HV.out⟩
                case measure => simp [intOf]; omega
          · have g2 := (show (((x[i].toNat : Int) == 41) : Bool) = false from u8_false x[i] 41 h41)
            rw [if_neg (fun h => h41 h.1), if_neg (fun h => h41 h.1), lift_succ] at hr
            have HV := Lib.hid hr
            clear hr h40 h41
            go_wp2
            go_roundw
            case rel => exact ⟨o, i + 1, rfl, by go_num, HE.out, HF.out, his, by omega, HV.out⟩
            case measure => simp [intOf]; omega
      · rw [List.drop_eq_nil_of_le (by rw [size_len]; omega), ari_nil] at hr
        subst hr
        go_wp2
        exact bodyPost_ret (resEnds Try.f29 8 rfl (HE.out.all 0 true false 0) _ rfl) rfl ⟨rfl, HF.out.four (Nat.le_refl _) _ _ _ _⟩
end Go.Proofs.Ytoahgblgchmclaa
