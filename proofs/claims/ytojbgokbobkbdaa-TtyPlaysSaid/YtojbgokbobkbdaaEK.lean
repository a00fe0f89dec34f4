/- The terminal of a law; shown, short, shows. -/
import Derived.Test.YtojbgokbobkbdaaEJ
namespace Go.Proofs.Ytojbgokbobkbdaa
open Go.RowKit
set_option linter.unusedVariables false
set_option linter.unusedSimpArgs false
variable {w0 W W' : World} {B T : Nat} {S : Nat → Prop} {s : TS}
/-- the terminal of a law that began at w0. -/
structure TL (w0 W : World) (T : Nat) (s : TS) : Prop where
  at_ : ∃ S, TAt W w0.heap.size T S s
  ok : Ok s
  bel : Below w0.heap.size w0 W
theorem TL.step {s' : TS} (h : TAt W w0.heap.size T S s) (b : Below w0.heap.size w0 W) (k : Ok s') (d : Does W w0.heap.size T S s' W') : TL w0 W' T s' := by
  obtain ⟨S', h1, h2⟩ := d
  exact ⟨⟨S', h1⟩, k, h2.1.below b (Nat.le_refl _) fun g hg => (h.lt hg).1⟩
theorem TL.fresh (h : TL w0 W T s) (f : Below W.heap.size W W') : TL w0 W' T s := by
  obtain ⟨⟨S, h1⟩, k, b⟩ := h
  exact ⟨⟨S, h1.fr (Fr.of_below (S := fun _ => False) f) (fun _ _ => id)⟩, k, b.trans (f.mono b.size)⟩
theorem TL.cell (h : TL w0 W T s) {g o : Nat} {v : Value} (hc : w0.cell? ⟨g, o, none⟩ = some v) : W.cell? ⟨g, o, none⟩ = some v :=
  (h.bel.cell (p := ⟨g, o, none⟩) (cell_lt hc)).trans hc
theorem own_base {B B' : Nat} {e : TypeId} {v : Value} {n : Nat} {xs : List Value} (h : W.ownsRow B e 1 v n xs) (hb : B' ≤ B) : W.ownsRow B' e 1 v n xs := by
  refine ⟨h.1, ?_⟩
  rcases h.2 with h1 | ⟨g, cap, cur, h1, h2, h3⟩
  · exact .inl h1
  · exact .inr ⟨g, cap, cur, h1, Nat.le_trans hb h2, h3⟩
theorem ownF_base {B B' : Nat} {e : TypeId} {v : Value} {n : Nat} {xs : List Value} (h : W.ownsRowF B e 1 v n xs) (hb : B' ≤ B) : W.ownsRowF B' e 1 v n xs := by
  refine ⟨h.1, ?_⟩
  rcases h.2 with h1 | ⟨g, cap, cur, fz, h1, h2, h3⟩
  · exact .inl h1
  · exact .inr ⟨g, cap, cur, fz, h1, Nat.le_trans hb h2, h3⟩
theorem TAt.weak {B' : Nat} (h : TAt W B T S s) (hb : B' ≤ B) : TAt W B' T S s := by
  obtain ⟨v0, v2, v5, p, h1, hS⟩ := h
  exact ⟨v0, v2, v5, p, ⟨h1.hb, h1.hp, own_base h1.o0 hb, own_base h1.o2 hb, ownF_base h1.o5 hb, h1.n25, Nat.le_trans hb h1.base, h1.z5⟩, hS⟩
theorem tl_new (b : Below w0.heap.size w0 W) :
    Calls Try.prog 10 #[] W fun r w' => ∃ T, r = .returned (.pointer (some ⟨T, 0, none⟩)) ∧ TL w0 w' T new0 :=
  (pnew_any W).mono fun r w' ⟨h1, ⟨S, h2⟩, h3⟩ => ⟨_, h1, ⟨S, h2.weak b.size⟩, ok_new, h3.below b (Nat.le_refl _) (fun _ h => h.elim)⟩
theorem tl_type (t : ByteArray) (ht : t.size ≤ 100000000) (h : TL w0 W T s) (hs : s.shown.length ≤ 1000000000000) :
    Calls Try.prog 16 #[.pointer (some ⟨T, 0, none⟩), .string t] W fun r w' => r = .returned (.tuple #[]) ∧ TL w0 w' T (typeP t.data.toList s) := by
  obtain ⟨⟨S, h1⟩, k, b⟩ := h
  exact (type_any t ht h1 k hs).mono fun r w' ⟨e, d⟩ => ⟨e, TL.step h1 b (ok_type k _) d⟩
theorem tl_read (n : Int) (h : TL w0 W T s) :
    Calls Try.prog 19 #[.pointer (some ⟨T, 0, none⟩), .int .i64 n] W fun r w' => r = .returned (readV n s) ∧ TL w0 w' T (readP n s) := by
  obtain ⟨⟨S, h1⟩, k, b⟩ := h
  exact (read_any n h1 k).mono fun r w' ⟨e, d⟩ => ⟨e, TL.step h1 b (ok_read k _) d⟩
theorem tl_echo (on : Bool) (h : TL w0 W T s) :
    Calls Try.prog 18 #[.pointer (some ⟨T, 0, none⟩), .bool on] W fun r w' => r = .returned (.tuple #[]) ∧ TL w0 w' T (echoP on s) := by
  obtain ⟨⟨S, h1⟩, k, b⟩ := h
  exact (echo_any on h1).mono fun r w' ⟨e, d⟩ => ⟨e, TL.step h1 b (ok_echo k _) d⟩
theorem tl_screen (h : TL w0 W T s) :
    Calls Try.prog 15 #[.pointer (some ⟨T, 0, none⟩)] W fun r w' => r = .returned (.string ⟨s.shown.toArray⟩) ∧ TL w0 w' T s := by
  obtain ⟨⟨S, h1⟩, k, b⟩ := h
  exact (screen_any h1).mono fun r w' ⟨e, d⟩ => ⟨e, TL.step h1 b k d⟩
theorem tl_unread (h : TL w0 W T s) :
    Calls Try.prog 12 #[.pointer (some ⟨T, 0, none⟩)] W fun r w' => r = .returned (.tuple #[.int .i64 (cnt s.L : Nat), .int .i64 (s.line.length : Nat)]) ∧ TL w0 w' T s := by
  obtain ⟨⟨S, h1⟩, k, b⟩ := h
  exact (unread_any h1).mono fun r w' ⟨e, d⟩ => ⟨e, TL.step h1 b k d⟩
theorem tl_echoes (h : TL w0 W T s) :
    Calls Try.prog 14 #[.pointer (some ⟨T, 0, none⟩)] W fun r w' => r = .returned (.bool s.echo) ∧ TL w0 w' T s := by
  obtain ⟨⟨S, h1⟩, k, b⟩ := h
  exact (echoes_any h1).mono fun r w' ⟨e, d⟩ => ⟨e, TL.step h1 b k d⟩
theorem sh1 : typeP [97, 98, 8, 99, 10] new0 = ⟨[[97, 99, 10]], [], true, [97, 98, 8, 32, 8, 99, 10]⟩ := by kernel_rfl
theorem sh2 : readP 99 ⟨[[97, 99, 10]], [], true, [97, 98, 8, 32, 8, 99, 10]⟩ = ⟨[], [], true, [97, 98, 8, 32, 8, 99, 10]⟩ := by kernel_rfl
theorem sh2v : readV 99 ⟨[[97, 99, 10]], [], true, [97, 98, 8, 32, 8, 99, 10]⟩ = .tuple #[.string ⟨#[97, 99, 10]⟩, .bool true] := by kernel_rfl
theorem sh3 : echoP false ⟨[], [], true, [97, 98, 8, 32, 8, 99, 10]⟩ = ⟨[], [], false, [97, 98, 8, 32, 8, 99, 10]⟩ := by kernel_rfl
theorem sh4 : typeP [112, 119, 10] ⟨[], [], false, [97, 98, 8, 32, 8, 99, 10]⟩ = ⟨[[112, 119, 10]], [], false, [97, 98, 8, 32, 8, 99, 10, 10]⟩ := by kernel_rfl
theorem sh5 : readP 99 ⟨[[112, 119, 10]], [], false, [97, 98, 8, 32, 8, 99, 10, 10]⟩ = ⟨[], [], false, [97, 98, 8, 32, 8, 99, 10, 10]⟩ := by kernel_rfl
theorem sh5v : readV 99 ⟨[[112, 119, 10]], [], false, [97, 98, 8, 32, 8, 99, 10, 10]⟩ = .tuple #[.string ⟨#[112, 119, 10]⟩, .bool true] := by kernel_rfl
set_option maxHeartbeats 4000000 in
theorem shown_any (w : World) : Calls Try.prog 9 #[] w fun r w' => r = .returned (.bool true) ∧ Below w.heap.size w w' := by
  go_enter Try.func9, Try.ntmps9
  go_wp2_with fail
  refine (tl_new (Below.refl _ _)).mono ?_
  rintro r w1 ⟨T, rfl, h1⟩
  have H1 := Lib.hid (tl_type ⟨#[97, 98, 8, 99, 10]⟩ (by decide) h1 (by decide))
  rw [show (⟨#[97, 98, 8, 99, 10]⟩ : ByteArray).data.toList = [97, 98, 8, 99, 10] from rfl, sh1] at H1
  clear h1
  go_wp2_with fail
  refine H1.out.mono ?_
  rintro r w2 ⟨rfl, h2⟩
  have H2 := Lib.hid (tl_read 99 h2)
  rw [sh2, sh2v] at H2
  clear h2 H1
  go_wp2_with fail
  refine H2.out.mono ?_
  rintro r w3 ⟨rfl, h3⟩
  have H3 := Lib.hid (tl_screen h3)
  clear h3 H2
  go_wp2_with fail
  refine H3.out.mono ?_
  rintro r w4 ⟨rfl, h4⟩
  have H4 := Lib.hid (tl_echo false h4)
  rw [sh3] at H4
  clear h4 H3
  go_wp2_with fail
  refine H4.out.mono ?_
  rintro r w5 ⟨rfl, h5⟩
  have H5 := Lib.hid (tl_type ⟨#[112, 119, 10]⟩ (by decide) h5 (by decide))
  rw [show (⟨#[112, 119, 10]⟩ : ByteArray).data.toList = [112, 119, 10] from rfl, sh4] at H5
  clear h5 H4
  go_wp2_with fail
  refine H5.out.mono ?_
  rintro r w6 ⟨rfl, h6⟩
  have H6 := Lib.hid (tl_read 99 h6)
  rw [sh5, sh5v] at H6
  clear h6 H5
  go_wp2_with fail
  refine H6.out.mono ?_
  rintro r w7 ⟨rfl, h7⟩
  have H7 := Lib.hid (tl_screen h7)
  clear h7 H6
  go_wp2_with fail
  refine H7.out.mono ?_
  rintro r w8 ⟨rfl, h8⟩
  have H8 := Lib.hid (tl_echoes h8)
  clear h8 H7
  go_wp2_with fail
  refine H8.out.mono ?_
  rintro r w9 ⟨rfl, h9⟩
  clear H8
  go_wp2
  go_ret
  exact ⟨rfl, h9.bel⟩
/-- a text cut short. -/
def shortP (t : ByteArray) (m : Nat) : ByteArray := if m < t.size then t.extract 0 m else t
theorem short_size (t : ByteArray) (m : Nat) : (shortP t m).size ≤ m := by
  unfold shortP
  split
  · rw [ByteArray.size_extract]; omega
  · omega
theorem short_any (t : ByteArray) (m : Nat) (hm : m ≤ 100000) (ht : t.size ≤ maxLen) (w : World) :
    Calls Try.prog 17 #[.string t, .int .i64 m] w fun r w' => r = .returned (.string (shortP t m)) ∧ w = w' := by
  unfold maxLen at ht
  by_cases h : m < t.size
  · have R : shortP t m = t.extract 0 m := if_pos h
    rw [R]
    have h1 : (m : Int) < t.size := by omega
    have h2 : (m : Int) ≤ t.size := by omega
    go_enter Try.func17, Try.ntmps17
    go_wp2
    go_ret
    exact ⟨rfl, rfl⟩
  · have R : shortP t m = t := if_neg h
    rw [R]
    have h1 : ¬ (m : Int) < t.size := by omega
    go_enter Try.func17, Try.ntmps17
    go_wp2
    go_ret
    exact ⟨rfl, rfl⟩
end Go.Proofs.Ytojbgokbobkbdaa
