/- Walk of the law PwfilePrints. -/
import Derived.Test.YtjopmchbphjliaaGreatDoorRJ
import Derived.Test.YtjopmchbphjliaaGreatDoorH1
namespace Go.Proofs.YtjopmchbphjliaaGreatDoor
open Go.RowKit Go.Shelf

set_option maxRecDepth 100000 in
set_option maxHeartbeats 3200000 in
theorem prints_walk (p : Option Addr) (n cap : Nat) (us : List Usr) (w : World) (henv : Env w) (hin : InUsers w p n us) (hn : n ≤ cap) (hm : cap ≤ maxLen) (hsm : ∀ u ∈ us, u.home.size ≤ 1048576 ∧ u.shell.size ≤ 1048576) :
    Calls Tryz.prog 4 #[.slice p n cap] w fun e w' => e = .returned (.bool true) ∧ Below w.heap.size w w' := by
  have csh := shown_any w henv
  obtain ⟨b, hb⟩ : ∃ b, rightL us = b := ⟨_, rfl⟩
  obtain ⟨x, hx⟩ : ∃ x : ByteArray, (⟨(printS us).toArray⟩ : ByteArray) = x := ⟨_, rfl⟩
  have c1 := fun w1 h => right_any p n cap us w1 h hn hm
  have c2 := fun w1 h => rright_any p n cap us w1 h (Nat.le_trans hn hm) hsm
  have c3 := fun w1 e h => print_any p n cap us w1 e h hn hm
  have c4 := fun w1 h => rprint_any p n cap us w1 h (Nat.le_trans hn hm) hsm
  rw [hb] at c1 c2
  rw [hx] at c3 c4
  have C1 := Lib.hid c1
  have C2 := Lib.hid c2
  have C3 := Lib.hid c3
  have C4 := Lib.hid c4
  have Hin := Lib.hid hin
  have Henv := Lib.hid henv
  clear hb hx c1 c2 c3 c4 hin henv hsm
  go_enter Tryz.func4, Tryz.ntmps4
  go_wp2_with fail
  refine csh.mono ?_
  rintro e w1 ⟨rfl, hb1⟩
  clear csh
  go_wp2_with fail
  refine (C1.out _ (Hin.out.below hb1 (Nat.le_refl _))).mono ?_
  rintro e w2 ⟨rfl, hz⟩
  have hb2 := next hb1 hb1.size hz
  clear hz hb1
  go_wp2_with fail
  refine (C2.out _ (Hin.out.below hb2 (Nat.le_refl _))).mono ?_
  rintro e w3 ⟨rfl, hz⟩
  have hb3 := next hb2 hb2.size hz
  clear hz hb2
  cases b
  all_goals
    go_wp2_with fail
    refine (C3.out _ (Henv.out.below hb3) (Hin.out.below hb3 (Nat.le_refl _))).mono ?_
    rintro e w4 ⟨rfl, hz⟩
    have hb4 := next hb3 hb3.size hz
    clear hz hb3
    go_wp2_with fail
    refine (C4.out _ (Hin.out.below hb4 (Nat.le_refl _))).mono ?_
    rintro e w5 ⟨rfl, hz⟩
    have hb5 := next hb4 hb4.size hz
    clear hz hb4
    go_wp2
    go_ret
    exact ⟨ret_bool (by simp), hb5⟩
end Go.Proofs.YtjopmchbphjliaaGreatDoor
