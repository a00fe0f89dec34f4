/- The walk of WalkLinks. -/
import Derived.Test.YtflncolmehmaaaaWY
namespace Go.Proofs.Ytflncolmehmaaaa
open Go.RowKit Ino Go.Maps Pa
set_option linter.unusedVariables false
set_option linter.unusedSimpArgs false
variable {w0 w w' : World} {A n G : Nat} {t u : T} {L : Nat → Prop}

theorem k_stat (s m : Bs) : statP (K4 s m) 2 = (⟨2, 0, 420, 5, 5, 2, ((K4 s m 2).data.length : Int) + ((K4 s m 2).ents.length : Int), 0⟩, true) := by kernel_rfl
/-- the credentials lie here. -/
def CC (W : World) (G : Nat) : Prop := W.cell? ⟨G, 0, none⟩ = some (.int .i64 5) ∧ W.cell? ⟨G, 1, none⟩ = some (.int .i64 5) ∧ W.cell? ⟨G, 2, none⟩ = some (.int .i64 5) ∧ W.cell? ⟨G, 3, none⟩ = some (.int .i64 5) ∧ W.cell? ⟨G, 4, none⟩ = some (.int .i64 5)
theorem CC.kp (h : CC w G) (k : Kp L w w') (hL : L G) : CC w' G := ⟨k.cell hL h.1, k.cell hL h.2.1, k.cell hL h.2.2.1, k.cell hL h.2.2.2.1, k.cell hL h.2.2.2.2⟩
theorem CC.up (h : CC w G) (b : Below w.heap.size w w') : CC w' G := ⟨up1 h.1 b, up1 h.2.1 b, up1 h.2.2.1 b, up1 h.2.2.2.1 b, up1 h.2.2.2.2 b⟩
abbrev sA : ByteArray := ⟨#[47, 97]⟩
abbrev sB : ByteArray := ⟨#[47, 98]⟩
theorem li_open (p : WL L w0 w A K0 0) : Calls Try.prog 19 #[.pointer (some ⟨A, 0, none⟩), .int .i64 1, crd 5 5 5 5 5, .string ⟨#[47, 97]⟩, .agg #[.int .i64 2, .bool true, .bool false, .bool false, .bool false, .int .i64 2468]] w fun e w' => e = .returned (.tuple #[.int .i64 2, .int .i64 0]) ∧ WL L w0 w' A K1 1 ∧ Kp L w w' := by
  have := wl_open p (by decide) 1 5 5 5 5 5 ⟨#[47, 97]⟩ (by decide) 2 true false false false 2468 (by unfold wfI; omega)
  rw [show (⟨#[47, 97]⟩ : ByteArray).data.toList = [47, 97] from rfl, k_open] at this
  exact this
theorem li_put (s : ByteArray) (hs : s.size ≤ 2000) (p : WL L w0 w A K1 1) : Calls Try.prog 20 #[.pointer (some ⟨A, 0, none⟩), .int .i64 2, .int .i64 0, .string s] w fun e w' => e = .returned (.int .i64 0) ∧ WL L w0 w' A (K2 s.data.toList) 1 ∧ Kp L w w' := by
  have := wl_put p 2 0 s (by omega) (by omega)
  rw [k_put s.data.toList hs] at this
  exact this
theorem li_link (s : ByteArray) (hs : s.size ≤ 2000) (p : WL L w0 w A (K2 s.data.toList) 1) : Calls Try.prog 21 #[.pointer (some ⟨A, 0, none⟩), .int .i64 1, crd 5 5 5 5 5, .string ⟨#[47, 97]⟩, .string ⟨#[47, 98]⟩] w fun e w' => e = .returned (.int .i64 0) ∧ WL L w0 w' A (K3 s.data.toList) 1 ∧ Kp L w w' := by
  have := wl_link p 1 5 5 5 5 5 ⟨#[47, 97]⟩ ⟨#[47, 98]⟩ (by decide) (by decide)
  rw [show (⟨#[47, 97]⟩ : ByteArray).data.toList = [47, 97] from rfl, show (⟨#[47, 98]⟩ : ByteArray).data.toList = [47, 98] from rfl, k_link s.data.toList hs] at this
  exact this
theorem li_put2 (s m : ByteArray) (hs : s.size ≤ 2000) (hm : m.size ≤ 2000) (p : WL L w0 w A (K3 s.data.toList) 1) : Calls Try.prog 20 #[.pointer (some ⟨A, 0, none⟩), .int .i64 2, .int .i64 (s.size : Nat), .string m] w fun e w' => e = .returned (.int .i64 0) ∧ WL L w0 w' A (K4 s.data.toList m.data.toList) 1 ∧ Kp L w w' := by
  have := wl_put p 2 (s.size : Nat) m (by omega) (by omega)
  rw [show (s.size : Int) = (s.data.toList.length : Nat) from rfl, k_put2 s.data.toList m.data.toList hs hm] at this
  exact this
theorem li_findb (s m : ByteArray) (p : WL L w0 w A (K4 s.data.toList m.data.toList) 1) : Calls Try.prog 18 #[.pointer (some ⟨A, 0, none⟩), .int .i64 1, crd 5 5 5 5 5, .string ⟨#[47, 98]⟩] w fun e w' => e = .returned (.tuple #[.int .i64 2, .int .i64 0]) ∧ WL L w0 w' A (K4 s.data.toList m.data.toList) 1 ∧ Kp L w w' := by
  have := wl_find p 1 5 5 5 5 5 ⟨#[47, 98]⟩ (by decide)
  rw [show (⟨#[47, 98]⟩ : ByteArray).data.toList = [47, 98] from rfl, k_findb] at this
  exact this.mono fun e w' h => ⟨h.1, h.2.1, h.2.2.2⟩
theorem li_rm (s m : ByteArray) (hs : s.size ≤ 2000) (hm : m.size ≤ 2000) (p : WL L w0 w A (K4 s.data.toList m.data.toList) 1) : Calls Try.prog 22 #[.pointer (some ⟨A, 0, none⟩), .int .i64 1, crd 5 5 5 5 5, .string ⟨#[47, 97]⟩, .bool false] w fun e w' => e = .returned (.int .i64 0) ∧ WL L w0 w' A (K5 s.data.toList m.data.toList) 1 ∧ Kp L w w' := by
  have := wl_rm p 1 5 5 5 5 5 ⟨#[47, 97]⟩ (by decide) false
  rw [show (⟨#[47, 97]⟩ : ByteArray).data.toList = [47, 97] from rfl, k_rm s.data.toList m.data.toList hs hm] at this
  exact this
theorem li_gone (s m : ByteArray) (p : WL L w0 w A (K5 s.data.toList m.data.toList) 1) : Calls Try.prog 18 #[.pointer (some ⟨A, 0, none⟩), .int .i64 1, crd 5 5 5 5 5, .string ⟨#[97]⟩] w fun e w' => e = .returned (.tuple #[.int .i64 0, .int .i64 3]) ∧ WL L w0 w' A (K5 s.data.toList m.data.toList) 1 ∧ Kp L w w' := by
  have := wl_find p 1 5 5 5 5 5 ⟨#[97]⟩ (by decide)
  rw [show (⟨#[97]⟩ : ByteArray).data.toList = [97] from rfl, k_gone] at this
  exact this.mono fun e w' h => ⟨h.1, h.2.1, h.2.2.2⟩
theorem li_stays (s m : ByteArray) (p : WL L w0 w A (K5 s.data.toList m.data.toList) 1) : Calls Try.prog 18 #[.pointer (some ⟨A, 0, none⟩), .int .i64 1, crd 5 5 5 5 5, .string ⟨#[98]⟩] w fun e w' => e = .returned (.tuple #[.int .i64 2, .int .i64 0]) ∧ WL L w0 w' A (K5 s.data.toList m.data.toList) 1 ∧ Kp L w w' := by
  have := wl_find p 1 5 5 5 5 5 ⟨#[98]⟩ (by decide)
  rw [show (⟨#[98]⟩ : ByteArray).data.toList = [98] from rfl, k_stays] at this
  exact this.mono fun e w' h => ⟨h.1, h.2.1, h.2.2.2⟩
theorem li_data (s m : ByteArray) (p : WL L w0 w A (K5 s.data.toList m.data.toList) 1) : Calls Try.prog 23 #[.pointer (some ⟨A, 0, none⟩), .int .i64 2] w fun e w' => e = .returned (.string (s ++ m)) ∧ w = w' := by
  have := wl_data p 2
  rw [k_data] at this
  have e : (⟨(s.data.toList ++ m.data.toList).toArray⟩ : ByteArray) = s ++ m := by
    apply ByteArray.ext
    rw [ByteArray.data_append]
    simp
  rw [e] at this
  exact this
theorem li_stat (s m : ByteArray) (p : WL L w0 w A (K4 s.data.toList m.data.toList) 1) : Calls Try.prog 13 #[.pointer (some ⟨A, 0, none⟩), .int .i64 2] w fun e w' => ∃ z : Int, e = .returned (.tuple #[.agg #[.int .i64 2, .int .i64 0, .int .i64 420, .int .i64 5, .int .i64 5, .int .i64 2, .int .i64 z, .int .i64 0], .bool true]) ∧ WL L w0 w' A (K4 s.data.toList m.data.toList) 1 ∧ Kp L w w' := by
  have := wl_stat p 2
  rw [k_stat] at this
  exact this.mono fun e w' h => ⟨_, h.1, h.2.1, h.2.2.1⟩
set_option maxHeartbeats 4000000 in
set_option maxRecDepth 100000 in
theorem links7_any (s m : ByteArray) (w : World) (h1 : s.size ≤ maxLen) (h2 : m.size ≤ maxLen) :
    Calls Try.prog 5 #[.string s, .string m] w fun e w' => e = .returned (.bool true) ∧ Below w.heap.size w w' := by
  unfold maxLen at h1 h2
  go_enter Try.func5, Try.ntmps5
  go_wp2_with fail
  refine (shown7_any w).mono ?_
  rintro e w1 ⟨rfl, b1⟩
  go_wp2_with fail
  refine (wp_new b1 493 5 5 (by unfold wfI; omega) (by decide)).mono ?_
  rintro e w2 ⟨A, rfl, p2⟩
  clear b1
  go_wp2_with fail
  refine (who_any _ _ _).mono ?_
  rintro e w3 ⟨rfl, b3⟩
  have p3 := (p2.kept.read b3).more (bel1 w3 (.cells #[.int .i64 5, .int .i64 5, .int .i64 5, .int .i64 5, .int .i64 5] 43))
  have P3 : WL (· = w3.heap.size) w (w3.alloc (.cells #[.int .i64 5, .int .i64 5, .int .i64 5, .int .i64 5, .int .i64 5] 43)) A K0 0 := p3.weak (fun g hg => .inr ⟨by omega, by subst hg; simp⟩)
  have C3 : CC (w3.alloc (.cells #[.int .i64 5, .int .i64 5, .int .i64 5, .int .i64 5, .int .i64 5] 43)) w3.heap.size := ⟨top_cell _ _ _ rfl, top_cell _ _ _ rfl, top_cell _ _ _ rfl, top_cell _ _ _ rfl, top_cell _ _ _ rfl⟩
  have HP := Lib.hid P3
  have HC := Lib.hid C3
  clear p2 b3 p3 P3 C3
  by_cases k1 : s.size ≤ 2000
  · by_cases k2 : m.size ≤ 2000
    · have g1 : ¬ (2000 : Int) < s.size := by omega
      have g2 : ¬ (2000 : Int) < m.size := by omega
      obtain ⟨c0, c1, c2, c3, c4⟩ := HC.out
      have gl : w3.heap.size < (w3.alloc (.cells #[.int .i64 5, .int .i64 5, .int .i64 5, .int .i64 5, .int .i64 5] 43)).heap.size := by simp
      go_wp2_with fail
      refine (li_open HP.out).mono ?_
      rintro e w4 ⟨rfl, p4, q4⟩
      have C4 := Lib.hid (HC.out.kp q4 rfl)
      have P4 := Lib.hid p4
      clear p4 q4 HP HC c0 c1 c2 c3 c4 gl
      generalize w3.heap.size = G at *
      go_wp2_with fail
      refine (li_put s k1 P4.out).mono ?_
      rintro e w5 ⟨rfl, p5, q5⟩
      have C5 := Lib.hid (C4.out.kp q5 rfl)
      have P5 := Lib.hid p5
      clear p5 q5 P4 C4
      obtain ⟨c0, c1, c2, c3, c4⟩ := C5.out
      go_wp2_with fail
      refine (li_link s k1 P5.out).mono ?_
      rintro e w6 ⟨rfl, p6, q6⟩
      have C6 := Lib.hid (C5.out.kp q6 rfl)
      have P6 := Lib.hid p6
      clear p6 q6 P5 C5 c0 c1 c2 c3 c4
      go_wp2_with fail
      refine (li_put2 s m k1 k2 P6.out).mono ?_
      rintro e w7 ⟨rfl, p7, q7⟩
      have C7 := Lib.hid (C6.out.kp q7 rfl)
      have P7 := Lib.hid p7
      clear p7 q7 P6 C6
      obtain ⟨c0, c1, c2, c3, c4⟩ := C7.out
      go_wp2_with fail
      refine (li_findb s m P7.out).mono ?_
      rintro e w8 ⟨rfl, p8, q8⟩
      have C8 := Lib.hid (C7.out.kp q8 rfl)
      have P8 := Lib.hid p8
      clear p8 q8 P7 C7 c0 c1 c2 c3 c4
      go_wp2_with fail
      refine (li_stat s m P8.out).mono ?_
      rintro e w9 ⟨z, rfl, p9, q9⟩
      have C9 := Lib.hid (C8.out.kp q9 rfl)
      have P9 := Lib.hid ((p9.more (bel1 w9 (.cells #[.int .i64 2, .int .i64 0, .int .i64 420, .int .i64 5, .int .i64 5, .int .i64 2, .int .i64 z, .int .i64 0] 38))).weak (L' := fun g => g = G ∨ g = w9.heap.size) (fun g hg => hg.elim .inl (fun q => .inr ⟨by omega, by subst q; simp⟩)))
      have D9 := Lib.hid (C9.out.up (bel1 w9 (.cells #[.int .i64 2, .int .i64 0, .int .i64 420, .int .i64 5, .int .i64 5, .int .i64 2, .int .i64 z, .int .i64 0] 38)))
      have i2 := top_cell w9 #[.int .i64 2, .int .i64 0, .int .i64 420, .int .i64 5, .int .i64 5, .int .i64 2, .int .i64 z, .int .i64 0] 38 (j := 2) rfl
      have i5 := top_cell w9 #[.int .i64 2, .int .i64 0, .int .i64 420, .int .i64 5, .int .i64 5, .int .i64 2, .int .i64 z, .int .i64 0] 38 (j := 5) rfl
      clear p9 q9 P8 C8
      obtain ⟨c0, c1, c2, c3, c4⟩ := C9.out
      have hG9 : G < w9.heap.size := cell_lt c0
      go_wp2_with fail
      refine (li_rm s m k1 k2 P9.out).mono ?_
      rintro e w10 ⟨rfl, p10, q10⟩
      have C10 := Lib.hid (D9.out.kp q10 (.inl rfl))
      have j2 := q10.cell (.inr rfl) i2
      have j5 := q10.cell (.inr rfl) i5
      have P10 := Lib.hid p10
      clear p10 q10 P9 D9 C9 c0 c1 c2 c3 c4 i2 i5 hG9
      generalize w9.heap.size = I at *
      obtain ⟨c0, c1, c2, c3, c4⟩ := C10.out
      go_wp2_with fail
      refine (li_gone s m P10.out).mono ?_
      rintro e w11 ⟨rfl, p11, q11⟩
      have C11 := Lib.hid (C10.out.kp q11 (.inl rfl))
      have k2' := q11.cell (.inr rfl) j2
      have k5' := q11.cell (.inr rfl) j5
      have P11 := Lib.hid p11
      clear p11 q11 P10 C10 c0 c1 c2 c3 c4 j2 j5
      obtain ⟨c0, c1, c2, c3, c4⟩ := C11.out
      go_wp2_with fail
      refine (li_stays s m P11.out).mono ?_
      rintro e w12 ⟨rfl, p12, q12⟩
      have l2 := q12.cell (.inr rfl) k2'
      have l5 := q12.cell (.inr rfl) k5'
      have P12 := Lib.hid p12
      clear p12 q12 P11 C11 c0 c1 c2 c3 c4 k2' k5'
      go_wp2_with fail
      refine (li_data s m P12.out).mono ?_
      rintro e w13 ⟨rfl, rfl⟩
      go_wp2
      go_ret
      exact ⟨ret_bool (by simp), P12.out.below⟩
    · have g2 : (2000 : Int) < m.size := by omega
      have g1 : ¬ (2000 : Int) < s.size := by omega
      go_wp2
      go_ret
      exact ⟨rfl, HP.out.below⟩
  · have g1 : (2000 : Int) < s.size := by omega
    go_wp2
    go_ret
    exact ⟨rfl, HP.out.below⟩
end Go.Proofs.Ytflncolmehmaaaa
