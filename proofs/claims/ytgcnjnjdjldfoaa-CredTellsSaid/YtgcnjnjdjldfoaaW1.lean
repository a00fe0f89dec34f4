/- Contracts of areIDs and areRight of package cred, and of id and may of the document's answer. -/
import Derived.Test.YtgcnjnjdjldfoaaS
import Derived.WalkKit
import Derived.WalkSpells
import Derived.WalkLawsBesides
import Derived.Below
import Derived.Deep.QuietTactic
import Derived.BigQuiet
import Derived.Lib.Hide
import Derived.Laws.OwnMore
import Derived.Laws.Rows
namespace Go.Proofs.Ytgcnjnjdjldfoaa
open Go.RowKit

/-- a slice that reads as these numbers. -/
def InInts (W : World) (p : Option Addr) (n : Nat) (zs : List Int) : Prop :=
  zs.length = n ∧ ∀ j z, zs[j]? = some z → ∃ g off, p = some ⟨g, off, none⟩ ∧ W.cell? ⟨g, off + j, none⟩ = some (.int .i64 z)
def idRel (zs : List Int) (i : Value) : Prop := ∃ k : Nat, k ≤ zs.length ∧ i = .int .i64 k ∧ idsB (zs.drop k) = idsB zs
theorem drop_next (zs : List Int) (k : Nat) (z : Int) (h : zs[k]? = some z) : idsB (zs.drop k) = (idB z && idsB (zs.drop (k + 1))) := by
  obtain ⟨hk, rfl⟩ := List.getElem?_eq_some_iff.1 h
  rw [List.drop_eq_getElem_cons hk, idsB]
set_option maxHeartbeats 1000000 in
theorem areIDs_any (p : Option Addr) (n cap : Nat) (zs : List Int) (w : World) (hin : InInts w p n zs) (hn : n ≤ maxLen) :
    Calls Try.prog 18 #[.slice p n cap] w fun e w' => e = .returned (.bool (idsB zs)) ∧ w = w' := by
  unfold maxLen at hn
  obtain ⟨hlen, hzs⟩ := hin
  subst hlen
  have Hzs := Lib.hid hzs
  clear hzs
  go_enter Try.func18, Try.ntmps18
  go_wp2
  go_loop [7] (fun i => idRel zs i) (fun i => zs.length - (intOf i).toNat)
  case atStart => exact ⟨0, Nat.zero_le _, rfl, rfl⟩
  case round =>
    obtain ⟨k, hk, rfl, hd⟩ := hrel
    by_cases hlt : k < zs.length
    · have hz : zs[k]? = some zs[k] := List.getElem?_eq_getElem hlt
      obtain ⟨b, off, hpp, hc⟩ := Hzs.out k _ hz
      have hs := drop_next zs k _ hz
      generalize zs[k] = z at hz hc hs
      subst hpp
      rw [hd] at hs
      have Hs := Lib.hid hs
      clear hs hd hz
      by_cases h0 : z < 0
      · have Hr := Lib.hid (show idsB zs = false by rw [Hs.out, show idB z = false by simp [idB]; omega]; rfl)
        go_wp2
        go_ret
        exact ⟨ret_bool Hr.out.symm, rfl⟩
      by_cases h1 : 65535 < z
      · have Hr := Lib.hid (show idsB zs = false by rw [Hs.out, show idB z = false by simp [idB]; omega]; rfl)
        go_wp2
        go_ret
        exact ⟨ret_bool Hr.out.symm, rfl⟩
      have Hr := Lib.hid (show idsB (zs.drop (k + 1)) = idsB zs by rw [Hs.out, show idB z = true by simp [idB]; omega]; rfl)
      go_wp2
      go_round
      case rel => exact ⟨k + 1, by omega, by go_num, Hr.out⟩
      case measure => simp [intOf]; omega
    · have Hr := Lib.hid (show idsB zs = true by rw [← hd, List.drop_of_length_le (by omega)]; rfl)
      clear hd
      go_wp2
      go_ret
      exact ⟨ret_bool Hr.out.symm, rfl⟩
theorem id_any (n : Int) (w : World) :
    Calls Try.prog 21 #[.int .i64 n] w fun e w' => e = .returned (.bool (idB n)) ∧ w = w' := by
  by_cases h : 0 ≤ n
  · go_enter Try.func21, Try.ntmps21
    go_wp2
    go_ret
    exact ⟨ret_bool (by simp [idB]; omega), rfl⟩
  · go_enter Try.func21, Try.ntmps21
    go_wp2
    go_ret
    exact ⟨ret_bool (by simp [idB]; omega), rfl⟩
theorem new_cell (w : World) (cs : Array Value) (t : TypeId) (j : Nat) : (w.alloc (.cells cs t)).cell? ⟨w.heap.size, j, none⟩ = cs[j]? :=
  cell_of_row _ w.heap.size j cs t (0, 0) (heap_alloc_new w _)
theorem in_two (w : World) (a b : Int) : InInts (w.alloc (.cells #[.int .i64 a, .int .i64 b] 3)) (some ⟨w.heap.size, 0, none⟩) 2 [a, b] :=
  ⟨rfl, fun j z hj => ⟨_, _, rfl, by
    rw [new_cell, Nat.zero_add]
    match j, hj with
    | 0, hj => cases hj; rfl
    | 1, hj => cases hj; rfl⟩⟩
theorem in_six (w : World) (a b c d e f : Int) : InInts (w.alloc (.cells #[.int .i64 a, .int .i64 b, .int .i64 c, .int .i64 d, .int .i64 e, .int .i64 f] 3)) (some ⟨w.heap.size, 0, none⟩) 6 [a, b, c, d, e, f] :=
  ⟨rfl, fun j z hj => ⟨_, _, rfl, by
    rw [new_cell, Nat.zero_add]
    match j, hj with
    | 0, hj => cases hj; rfl
    | 1, hj => cases hj; rfl
    | 2, hj => cases hj; rfl
    | 3, hj => cases hj; rfl
    | 4, hj => cases hj; rfl
    | 5, hj => cases hj; rfl⟩⟩
theorem ids_two (a b : Int) (w w' : World) (h : w' = w.alloc (.cells #[.int .i64 a, .int .i64 b] 3)) :
    Calls Try.prog 18 #[.slice (some ⟨w.heap.size, 0, none⟩) 2 2] w' fun v w'' => v = .returned (.bool (idsB [a, b])) ∧ w' = w'' := by
  subst h
  exact areIDs_any _ _ _ _ _ (in_two w a b) (by decide)
theorem right_any (r e s g x n : Int) (w : World) :
    Calls Try.prog 20 #[.agg #[.int .i64 r, .int .i64 e, .int .i64 s, .int .i64 g, .int .i64 x], .int .i64 n] w fun v w' => v = .returned (.bool (rightB ⟨r, e, s, g, x⟩ n)) ∧ Below w.heap.size w w' := by
  have hc := fun W => areIDs_any _ 6 6 _ _ (in_six W r e s g x n) (by decide)
  have hc0 := hc (w.alloc (.cells #[.int .i64 r, .int .i64 e, .int .i64 s, .int .i64 g, .int .i64 x] 23))
  rw [show (w.alloc (.cells #[.int .i64 r, .int .i64 e, .int .i64 s, .int .i64 g, .int .i64 x] 23)).heap.size = w.heap.size + 1 by simp] at hc0
  have Hc := Lib.hid hc0
  clear hc hc0
  go_enter Try.func20, Try.ntmps20
  go_wp2_with (go_at_call 18; refine Hc.out.mono ?_; rintro e w' ⟨rfl, rfl⟩)
  go_ret
  exact ⟨rfl, ((Below.refl _ _).alloc (Nat.le_refl _) _).alloc (by simp) _⟩
theorem may_any (r e s g x : Int) (w : World) :
    Calls Try.prog 19 #[.agg #[.int .i64 r, .int .i64 e, .int .i64 s, .int .i64 g, .int .i64 x]] w fun v w' => v = .returned (.bool (mayB ⟨r, e, s, g, x⟩)) ∧ Below w.heap.size w w' := by
  go_enter Try.func19, Try.ntmps19
  go_wp2_with (go_at_call 21; refine (id_any _ _).mono ?_; rintro e w' ⟨rfl, rfl⟩)
  all_goals
    go_ret
    exact ⟨ret_bool (by simp [mayB, idsB, *]), (Below.refl _ _).alloc (Nat.le_refl _) _⟩
end Go.Proofs.Ytgcnjnjdjldfoaa
