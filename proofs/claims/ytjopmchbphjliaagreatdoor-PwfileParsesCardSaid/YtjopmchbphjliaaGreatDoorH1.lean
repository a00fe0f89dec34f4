/- The small case of each statement: shown. -/
import Derived.Test.YtjopmchbphjliaaGreatDoorG2
import Derived.Test.YtjopmchbphjliaaGreatDoorP1
import Derived.Test.YtjopmchbphjliaaGreatDoorK1
namespace Go.Proofs.YtjopmchbphjliaaGreatDoor
open Go.RowKit Go.Shelf

def rootU : Usr := ⟨⟨#[114, 111, 111, 116]⟩, ⟨#[]⟩, 0, 0, ⟨#[47]⟩, ⟨#[47, 98, 105, 110, 47, 115, 104]⟩⟩
def rootT : ByteArray := ⟨#[114, 111, 111, 116, 58, 58, 48, 58, 48, 58, 47, 58, 47, 98, 105, 110, 47, 115, 104, 10]⟩
def rootC : ByteArray := ⟨#[114, 111, 111, 116, 58, 58, 48, 58, 48, 58, 47, 58, 47, 98, 105, 110, 47, 115, 104]⟩
theorem itoa_zero : Lib.itoa 0 = [48] := by unfold Lib.itoa; rw [if_neg (by decide)]; exact Lib.decDigits_one (by decide)
theorem root_right : rightU rootU = true := by decide +kernel
theorem root_line : lineS rootU = rootT.data.toList := by
  unfold lineS fieldsS
  show Lib.join [_, _, Lib.itoa 0, Lib.itoa 0, _, _] [58] ++ [10] = _
  rw [itoa_zero]; rfl
theorem root_user : userS rootT = some rootU := user_of root_right root_line
theorem line_end {u : Usr} {s : ByteArray} (h : userS s = some u) : ∃ a, s.data.toList = a ++ [10] := ⟨_, (user_right h).2.symm⟩
theorem no_user {s : ByteArray} (h : s.data.toList.getLast? ≠ some 10) : userS s = none := by
  cases hu : userS s with
  | none => rfl
  | some u =>
    obtain ⟨a, ha⟩ := line_end hu
    rw [ha, List.getLast?_append] at h
    exact absurd rfl h
theorem root_parse : parseR rootT = ([rootU], 0, 0) := by
  unfold parseR
  rw [if_neg (by decide)]
  have h1 : linesB rootT = [rootT] := by decide +kernel
  have h2 : nextS [] rootT = (rootU, 0) := by unfold nextS; rw [root_user]; rfl
  rw [h1, goU, h2, if_pos rfl]; rfl
theorem core_parse : parseR rootC = ([], 1, 17) := by
  unfold parseR
  rw [if_neg (by decide)]
  have h1 : linesB rootC = [rootC] := by decide +kernel
  have h0 : userS rootC = none := no_user (by decide)
  have h2 : nextS [] rootC = (noUsr, 17) := by unfold nextS; rw [h0]
  rw [h1, goU, h2, if_neg (by decide)]; rfl
theorem root_list : rightL [rootU] = true := by
  unfold rightL rightF
  rw [root_right]; rfl
theorem root_print : printS [rootU] = rootT.data.toList := by
  unfold printS
  rw [root_list, if_pos rfl]
  unfold linesOf
  rw [List.map_cons, List.map_nil, root_line]
  rfl
/-- Parse, where its users are written out. -/
theorem parse_at (s : ByteArray) (hs : s.size ≤ maxLen) (us : List Usr) (k e : Nat) (hp : parseR s = (us, k, e)) (w : World) (henv : Env w) :
    Calls Tryz.prog 8 #[.string s] w fun x w' => ∃ p cap, x = .returned (.tuple #[.slice p us.length cap, .int .i64 (k : Int), .int .i64 (e : Int)]) ∧
      w'.ownsRow w.heap.size 29 6 (.slice p us.length cap) us.length (usCells us) ∧ Below w.heap.size w w' := by
  refine (parse_any s hs w henv).mono ?_
  rintro x w' ⟨v, rfl, hrow, hb⟩
  rw [hp] at hrow ⊢
  obtain ⟨p, cap, rfl⟩ := row_slice hrow
  exact ⟨p, cap, rfl, hrow, hb⟩
theorem goU_right : ∀ (ls : List ByteArray) (us : List Usr), (∀ u ∈ us, rightU u = true) → ∀ u ∈ (goU us ls).1, rightU u = true
  | [], _, h => h
  | s :: r, us, h => by
    rw [goU]
    by_cases hk : (nextS us s).2 = 0
    · rw [if_pos hk]
      refine goU_right r _ (fun u hu => ?_)
      rcases List.mem_append.1 hu with hu | hu
      · exact h u hu
      · rw [List.mem_singleton] at hu; subst hu
        exact (user_right (next_ok hk).1).1
    · rw [if_neg hk]; intro u hu; cases hu
theorem parse_rightU {s : ByteArray} {us : List Usr} {k e : Nat} (h : parseR s = (us, k, e)) : ∀ u ∈ us, rightU u = true := by
  unfold parseR at h
  by_cases hs : 4096 < s.size
  · rw [if_pos hs] at h; cases h; intro u hu; cases hu
  · rw [if_neg hs] at h
    have := goU_right (linesB s) [] (fun u hu => by cases hu)
    rw [h] at this; exact this
set_option maxRecDepth 100000 in
set_option maxHeartbeats 3200000 in
theorem shown_any (w : World) (henv : Env w) : Calls Tryz.prog 6 #[] w fun e w' => e = .returned (.bool true) ∧ Below w.heap.size w w' := by
  have c1 := parse_at rootT (by decide) [rootU] 0 0 root_parse w henv
  have c2 := fun w1 h => parse_at rootC (by decide) [] 1 17 core_parse w1 h
  have C2 := Lib.hid c2
  unfold rootT at c1
  unfold rootC at C2
  clear c2
  go_enter Tryz.func6, Tryz.ntmps6
  go_wp2_with fail
  refine c1.mono ?_
  rintro e w1 ⟨p, cap, rfl, hrow, hb1⟩
  obtain ⟨hin, _, hcap, hcm⟩ := InUsers.of_row hrow (fun u hu => right_ok (parse_rightU root_parse u hu))
  have henv1 := henv.below hb1
  clear c1 hrow
  go_wp2_with fail
  refine (C2.out _ henv1).mono ?_
  rintro e w2 ⟨p2, cap2, rfl, _, hb2⟩
  have hin2 := hin.below hb2 (Nat.le_refl _)
  obtain ⟨_, g, off, hpp, hat⟩ := hin2.2 0 rootU rfl
  subst hpp
  have henv2 := henv1.below hb2
  have hc5 : w2.cell? ⟨g, off + 5, none⟩ = some (.string ⟨#[47, 98, 105, 110, 47, 115, 104]⟩) := by have := hat.2.2.2.2.2; rw [Nat.zero_mul, Nat.add_zero] at this; exact this
  have hri := right_any _ 1 cap [rootU] w2 hin2 hcap hcm
  rw [root_list] at hri
  have hpr := fun w3 h h' => print_any (some ⟨g, off, none⟩) 1 cap [rootU] w3 h h' hcap hcm
  rw [root_print] at hpr
  have hb12 := next hb1 hb1.size hb2
  have Hri := Lib.hid hri
  have Hpr := Lib.hid hpr
  have Hin2 := Lib.hid hin2
  unfold rootT at Hpr
  clear hri hpr hin2 hat hin hb1 hb2 henv henv1 C2
  simp only [List.length_nil]
  go_wp2_with fail
  refine Hri.out.mono ?_
  rintro e w3 ⟨rfl, hb3⟩
  go_wp2_with fail
  refine (Hpr.out _ (henv2.below hb3) (Hin2.out.below hb3 (Nat.le_refl _))).mono ?_
  rintro e w4 ⟨rfl, hb4⟩
  go_wp2
  go_ret
  exact ⟨rfl, next (next hb12 hb12.size hb3) (next hb12 hb12.size hb3).size hb4⟩
end Go.Proofs.YtjopmchbphjliaaGreatDoor
