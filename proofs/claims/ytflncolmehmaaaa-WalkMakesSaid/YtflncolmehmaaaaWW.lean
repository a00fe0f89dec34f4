/- The first, small case of stage 7's laws. -/
import Derived.Test.YtflncolmehmaaaaWV
namespace Go.Proofs.Ytflncolmehmaaaa
open Go.RowKit Ino Go.Maps Pa Mo
set_option linter.unusedVariables false
set_option linter.unusedSimpArgs false

def Q0 : T := Ino.newP 493 0 0
def Q1 : T := mkT Q0 0 0 1 [100] 1 448 2
def Q2 : T := upd Q1 2 { Q1 2 with mode := bits .andNot .i64 (Q1 2).mode 2048, owner := 5, group := 5 }
def Q3 : T := madeT Q2 5 5 2 [120] 0 420 3
theorem q0_s : Sound Q0 := sound_new _ _ _
theorem q_mkdir : mkdirP Q0 1 0 0 [47, 100] 448 = (Q1, 0) :=
  mkdir_ok (d := 1) (nm := [100]) (m := false) (i := 2) q0_s (by decide) (by kernel_rfl) (by kernel_rfl) (by decide) (by kernel_rfl) (by kernel_rfl) (by decide) (by kernel_rfl) (by decide +kernel) (by kernel_rfl) (by kernel_rfl)
theorem q1_s : Sound Q1 := by
  have := sound_mkdir q0_s 1 0 0 [47, 100] 448
  rw [q_mkdir] at this
  exact this
theorem q_chown : chownP Q1 1 0 0 [100] 5 5 = (Q2, 0) := by
  have hf : findP Q1 1 0 0 [100] = (2, 0) := by kernel_rfl
  unfold chownP
  rw [hf]
  simp only [if_true]
  rw [if_pos (.inl trivial)]
  unfold setP
  rw [if_pos (by kernel_rfl), if_pos (by kernel_rfl)]
  rfl
theorem q2_s : Sound Q2 := by
  have := sound_chown q1_s 1 0 0 [100] 5 5
  rw [q_chown] at this
  exact this
theorem q_open : openP Q2 1 5 5 [47, 100, 47, 120] 2 true false false 420 = (Q3, 3, 0) :=
  open_new (d := 2) (nm := [120]) (i := 3) q2_s (by decide) (by decide) (by kernel_rfl) (by kernel_rfl) (by decide) (by kernel_rfl) (by kernel_rfl) (by decide) (by kernel_rfl) (by decide +kernel) (by kernel_rfl) (by kernel_rfl)
theorem q_find6 : findP Q3 1 6 6 [47, 100, 47, 120] = (0, 4) := by kernel_rfl
theorem q_find0 : findP Q3 1 0 0 [47, 100, 47, 120] = (3, 0) := by kernel_rfl
theorem q_rm : rmP Q3 1 6 6 [47, 100, 47, 120] false = (Q3, 4) := by
  have hp : placeP Q3 1 6 6 [47, 100, 47, 120] = ⟨0, [], false, 4⟩ := by kernel_rfl
  unfold rmP
  rw [hp]
  rfl
theorem who_any (u g : Int) (w : World) : Calls Try.prog 15 #[.int .i64 u, .int .i64 g] w fun e w' => e = .returned (crd u u u g g) ∧ Below w.heap.size w w' := by
  go_enter Try.func15, Try.ntmps15
  go_wp2
  exact bodyPost_ret (v := crd u u u g g) (by simp [results, Try.results15, go_sem]) rfl ⟨rfl, bel1 _ _⟩
variable {w0 w : World} {A n : Nat} {t : T}
theorem sh_mkdir (p : WP w0 w A Q0 0) : Calls Try.prog 17 #[.pointer (some ⟨A, 0, none⟩), .int .i64 1, crd 0 0 0 0 0, .string ⟨#[47, 100]⟩, .int .i64 448] w fun e w' => e = .returned (.int .i64 0) ∧ WP w0 w' A Q1 1 := by
  have := wp_mkdir p (by decide) 1 0 0 0 0 0 ⟨#[47, 100]⟩ (by decide) 448 (by unfold wfI; omega)
  rw [show (⟨#[47, 100]⟩ : ByteArray).data.toList = [47, 100] from rfl, q_mkdir] at this
  exact this
theorem sh_chown (p : WP w0 w A Q1 1) : Calls Try.prog 50 #[.pointer (some ⟨A, 0, none⟩), .int .i64 1, crd 0 0 0 0 0, .string ⟨#[100]⟩, .int .i64 5, .int .i64 5] w fun e w' => e = .returned (.int .i64 0) ∧ WP w0 w' A Q2 1 := by
  have := wp_chown p 1 0 0 0 0 0 ⟨#[100]⟩ (by decide) 5 5
  rw [show (⟨#[100]⟩ : ByteArray).data.toList = [100] from rfl, q_chown] at this
  exact this
theorem sh_open (p : WP w0 w A Q2 1) : Calls Try.prog 19 #[.pointer (some ⟨A, 0, none⟩), .int .i64 1, crd 5 5 5 5 5, .string ⟨#[47, 100, 47, 120]⟩, .agg #[.int .i64 2, .bool true, .bool false, .bool false, .bool false, .int .i64 420]] w fun e w' => e = .returned (.tuple #[.int .i64 3, .int .i64 0]) ∧ WP w0 w' A Q3 2 := by
  have := wp_open p (by decide) 1 5 5 5 5 5 ⟨#[47, 100, 47, 120]⟩ (by decide) 2 true false false false 420 (by unfold wfI; omega)
  rw [show (⟨#[47, 100, 47, 120]⟩ : ByteArray).data.toList = [47, 100, 47, 120] from rfl, q_open] at this
  exact this
theorem sh_find6 (p : WP w0 w A Q3 2) : Calls Try.prog 18 #[.pointer (some ⟨A, 0, none⟩), .int .i64 1, crd 6 6 6 6 6, .string ⟨#[47, 100, 47, 120]⟩] w fun e w' => e = .returned (.tuple #[.int .i64 0, .int .i64 4]) ∧ WP w0 w' A Q3 2 ∧ Below w.heap.size w w' := by
  have := wp_find p 1 6 6 6 6 6 ⟨#[47, 100, 47, 120]⟩ (by decide)
  rw [show (⟨#[47, 100, 47, 120]⟩ : ByteArray).data.toList = [47, 100, 47, 120] from rfl, q_find6] at this
  exact this
theorem sh_find0 (p : WP w0 w A Q3 2) : Calls Try.prog 18 #[.pointer (some ⟨A, 0, none⟩), .int .i64 1, crd 0 0 0 0 0, .string ⟨#[47, 100, 47, 120]⟩] w fun e w' => e = .returned (.tuple #[.int .i64 3, .int .i64 0]) ∧ WP w0 w' A Q3 2 ∧ Below w.heap.size w w' := by
  have := wp_find p 1 0 0 0 0 0 ⟨#[47, 100, 47, 120]⟩ (by decide)
  rw [show (⟨#[47, 100, 47, 120]⟩ : ByteArray).data.toList = [47, 100, 47, 120] from rfl, q_find0] at this
  exact this
theorem sh_rm (p : WP w0 w A Q3 2) : Calls Try.prog 22 #[.pointer (some ⟨A, 0, none⟩), .int .i64 1, crd 6 6 6 6 6, .string ⟨#[47, 100, 47, 120]⟩, .bool false] w fun e w' => e = .returned (.int .i64 4) ∧ WP w0 w' A Q3 2 := by
  have := wp_rm p 1 6 6 6 6 6 ⟨#[47, 100, 47, 120]⟩ (by decide) false
  rw [show (⟨#[47, 100, 47, 120]⟩ : ByteArray).data.toList = [47, 100, 47, 120] from rfl, q_rm] at this
  exact this
set_option maxHeartbeats 2000000 in
set_option maxRecDepth 100000 in
theorem shown7_any (w : World) : Calls Try.prog 14 #[] w fun e w' => e = .returned (.bool true) ∧ Below w.heap.size w w' := by
  go_enter Try.func14, Try.ntmps14
  go_wp2_with fail
  refine (wp_new (Below.refl w.heap.size w) 493 0 0 (by unfold wfI; omega) (by decide)).mono ?_
  rintro e w1 ⟨A, rfl, p1⟩
  have h1 : WP w w1 A Q0 0 := p1
  clear p1
  go_wp2_with fail
  refine (who_any _ _ _).mono ?_
  rintro e w2 ⟨rfl, b2⟩
  replace h1 := h1.read b2
  clear b2
  go_wp2_with fail
  refine (sh_mkdir h1).mono ?_
  rintro e w3 ⟨rfl, p2⟩
  clear h1
  go_wp2_with fail
  refine (who_any _ _ _).mono ?_
  rintro e w4 ⟨rfl, b2⟩
  replace p2 := p2.read b2
  clear b2
  go_wp2_with fail
  refine (sh_chown p2).mono ?_
  rintro e w5 ⟨rfl, p3⟩
  clear p2
  go_wp2_with fail
  refine (who_any _ _ _).mono ?_
  rintro e w6 ⟨rfl, b2⟩
  replace p3 := p3.read b2
  clear b2
  go_wp2_with fail
  refine (sh_open p3).mono ?_
  rintro e w7 ⟨rfl, p4⟩
  clear p3
  go_wp2_with fail
  refine (who_any _ _ _).mono ?_
  rintro e w8 ⟨rfl, b2⟩
  replace p4 := p4.read b2
  clear b2
  go_wp2_with fail
  refine (sh_find6 p4).mono ?_
  rintro e w9 ⟨rfl, p5, b2⟩
  clear p4 b2
  go_wp2_with fail
  refine (who_any _ _ _).mono ?_
  rintro e w10 ⟨rfl, b2⟩
  replace p5 := p5.read b2
  clear b2
  go_wp2_with fail
  refine (sh_find0 p5).mono ?_
  rintro e w11 ⟨rfl, p6, b2⟩
  clear p5 b2
  go_wp2_with fail
  refine (who_any _ _ _).mono ?_
  rintro e w12 ⟨rfl, b2⟩
  replace p6 := p6.read b2
  clear b2
  go_wp2_with fail
  refine (sh_rm p6).mono ?_
  rintro e w13 ⟨rfl, p7⟩
  clear p6
  go_wp2
  go_ret
  exact ⟨rfl, p7.p.below⟩
end Go.Proofs.Ytflncolmehmaaaa
