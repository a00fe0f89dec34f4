/- The closures of package pwfile; ContainsFunc, hasName, first, Find, Of. -/
import Derived.Test.YtjopmchbphjliaaGreatDoorU1
namespace Go.Proofs.YtjopmchbphjliaaGreatDoor
open Go.RowKit Go.Shelf

def qName (s : ByteArray) (u : Usr) : Bool := u.name.toList == s.toList
def qId (n : Int) (u : Usr) : Bool := u.id == n
set_option maxHeartbeats 800000 in
theorem named1_any (s : ByteArray) (B : Nat) (w : World) (hB : B < w.heap.size) (hc : w.cell? ⟨B, 0, none⟩ = some (.string s)) :
    PredU 51 #[.pointer (some ⟨B, 0, none⟩)] (qName s) w := fun W u hb => by
  have hc' : W.cell? ⟨B, 0, none⟩ = some (.string s) := (hb.cell (p := ⟨B, 0, none⟩) hB).trans hc
  have hBW : B < W.heap.size := Nat.lt_of_lt_of_le hB hb.size
  have hne : B ≠ W.heap.size := by omega
  show Calls Tryz.prog 51 #[.agg #[.string u.name, .string u.pass, .int .i64 u.id, .int .i64 u.grp, .string u.home, .string u.shell], .pointer (some ⟨B, 0, none⟩)] W _
  clear hc
  go_enter Tryz.func51, Tryz.ntmps51
  go_wp2
  go_ret
  exact ⟨rfl, (Below.refl _ W).alloc (Nat.le_refl _) _⟩
set_option maxHeartbeats 800000 in
theorem of1_any (n : Int) (B : Nat) (w : World) (hB : B < w.heap.size) (hc : w.cell? ⟨B, 0, none⟩ = some (.int .i64 n)) :
    PredU 32 #[.pointer (some ⟨B, 0, none⟩)] (qId n) w := fun W u hb => by
  have hc' : W.cell? ⟨B, 0, none⟩ = some (.int .i64 n) := (hb.cell (p := ⟨B, 0, none⟩) hB).trans hc
  have hBW : B < W.heap.size := Nat.lt_of_lt_of_le hB hb.size
  have hne : B ≠ W.heap.size := by omega
  show Calls Tryz.prog 32 #[.agg #[.string u.name, .string u.pass, .int .i64 u.id, .int .i64 u.grp, .string u.home, .string u.shell], .pointer (some ⟨B, 0, none⟩)] W _
  clear hc
  go_enter Tryz.func32, Tryz.ntmps32
  go_wp2
  go_ret
  exact ⟨rfl, (Below.refl _ W).alloc (Nat.le_refl _) _⟩
theorem named_any (s : ByteArray) (w : World) :
    Calls Tryz.prog 31 #[.string s] w fun e w' => e = .returned (.func (.func 51) #[] #[.pointer (some ⟨w.heap.size, 0, none⟩)]) ∧ w' = w.alloc (.cells #[.string s] 9) := by
  go_enter Tryz.func31, Tryz.ntmps31
  go_wp2
  go_ret
  exact ⟨rfl, rfl⟩
theorem enters_named1 : ∀ args w, (callFunc 51 args).run Tryz.prog w = .ok (.enter 51 args) w := enters_of Tryz.func51 (by kernel_rfl) rfl
theorem enters_of1 : ∀ args w, (callFunc 32 args).run Tryz.prog w = .ok (.enter 32 args) w := enters_of Tryz.func32 (by kernel_rfl) rfl
theorem findI_any (q : Usr → Bool) (us : List Usr) : decide (0 ≤ findI q us) = us.any q := by
  induction us with
  | nil => rfl
  | cons u us ih =>
    have := findI_ge q us
    unfold findI
    rw [List.any_cons, ← ih]
    by_cases h : q u = true
    · rw [if_pos h, h]; rfl
    · rw [if_neg h, Bool.eq_false_iff.2 h, Bool.false_or]
      by_cases h2 : findI q us < 0
      · rw [if_pos h2, decide_eq_false (by omega), decide_eq_false (by omega)]
      · rw [if_neg h2, decide_eq_true (by omega), decide_eq_true (by omega)]
set_option maxHeartbeats 800000 in
theorem contains_any (q : Usr → Bool) (g : Nat) (lb : Array Value) (eg : ∀ args w, (callFunc g args).run Tryz.prog w = .ok (.enter g args) w) (p : Option Addr) (n cap : Nat) (us : List Usr) (w : World)
    (hin : InUsers w p n us) (hn : n ≤ maxLen) (hp : PredU g lb q w) :
    Calls Tryz.prog 43 #[.slice p n cap, .func (.func g) #[] lb] w fun e w' => e = .returned (.bool (us.any q)) ∧ Below w.heap.size w w' := by
  have hcon := index_any q g lb eg p n cap us w hin hn hp
  have He := Lib.hid (findI_any q us)
  clear hin hp
  generalize findI q us = r at hcon He
  go_enter Tryz.func43, Tryz.ntmps43
  go_wp2_with (go_at_call 33; refine hcon.mono ?_; rintro e w' ⟨rfl, hb'⟩)
  go_ret
  exact ⟨ret_bool He.out, hb'⟩
set_option maxHeartbeats 800000 in
theorem hasName_any (p : Option Addr) (n cap : Nat) (us : List Usr) (s : ByteArray) (w : World) (hin : InUsers w p n us) (hn : n ≤ maxLen) :
    Calls Tryz.prog 24 #[.slice p n cap, .string s] w fun e w' => e = .returned (.bool (us.any (qName s))) ∧ Below w.heap.size w w' := by
  have hb0 : Below w.heap.size w (w.alloc (.cells #[.string s] 9)) := (Below.refl _ w).alloc (Nat.le_refl _) _
  have hcon := contains_any (qName s) 51 #[.pointer (some ⟨w.heap.size, 0, none⟩)] enters_named1 p n cap us (w.alloc (.cells #[.string s] 9)) (hin.below hb0 (Nat.le_refl _)) hn
    (named1_any s w.heap.size _ (by simp) (by simp))
  clear hin
  generalize us.any (qName s) = r at hcon
  go_enter Tryz.func24, Tryz.ntmps24
  go_wp2_with (first | (go_at_call 31; refine (named_any s _).mono ?_; rintro e w' ⟨rfl, rfl⟩) | (go_at_call 43; refine hcon.mono ?_; rintro e w' ⟨rfl, hb'⟩))
  go_ret
  exact ⟨rfl, hb0.trans (hb'.mono (by simp))⟩
end Go.Proofs.YtjopmchbphjliaaGreatDoor
