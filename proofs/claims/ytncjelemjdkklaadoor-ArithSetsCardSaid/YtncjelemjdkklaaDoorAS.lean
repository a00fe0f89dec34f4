/- Contract of the program's numberOf. -/
import Derived.Test.YtncjelemjdkklaaDoorAR
namespace Go.Proofs.YtncjelemjdkklaaDoor
open Go.RowKit
set_option linter.unusedVariables false
set_option linter.unusedSimpArgs false
theorem has_minus (t : Bs) : Lib.hasPrefix t [45] = decide (t.head? = some 45) := by
  cases t with
  | nil => rfl
  | cons c r =>
    rw [Bool.eq_iff_iff, decide_eq_true_eq]
    simp [Lib.hasPrefix]
    try exact ⟨fun h => h.symm, fun h => h.symm⟩
theorem cut_minus (t : Bs) : Lib.trimPrefix t [45] = if t.head? = some 45 then t.tail else t := by
  unfold Lib.trimPrefix
  rw [has_minus]
  by_cases h : t.head? = some 45
  · rw [if_pos h, if_pos (by simpa using h)]
    cases t with
    | nil => rfl
    | cons c r => rfl
  · rw [if_neg h, if_neg (by simpa using h)]
set_option maxHeartbeats 1000000 in
theorem numberOf_any (s : ByteArray) (hs : s.size ≤ maxLen) (w : World) :
    Calls Tryd.prog 103 #[.string s] w fun e w' => e = .returned (.tuple #[.int .i64 (numV s.data.toList).1, .int .i64 (numV s.data.toList).2]) ∧ w' = w := by
  have hs' := hs
  unfold maxLen at hs
  have hl := size_len s
  by_cases h0 : s.data.toList = []
  · have E := Lib.hid (show numV s.data.toList = (0, 0) by rw [h0]; rfl)
    have g : s.toList.isEmpty = true := by rw [Lib.toList_data, h0]; rfl
    clear h0
    go_enter Tryd.func103, Tryd.ntmps103
    go_wp2
    go_ret2
    exact ⟨ret_two (by rw [E.out]; rfl) (by rw [E.out]; rfl), rfl⟩
  · have g : s.toList.isEmpty = false := by rw [Lib.toList_data]; cases h : s.data.toList with | nil => exact absurd h h0 | cons _ _ => rfl
    have HC := Lib.hid (Tryd.strings_CutPrefix s ⟨#[45]⟩)
    have hcut : Lib.trimPrefix s.data.toList (⟨#[45]⟩ : ByteArray).data.toList = if s.data.toList.head? = some 45 then s.data.toList.tail else s.data.toList := cut_minus _
    have hhas : Lib.hasPrefix s.data.toList (⟨#[45]⟩ : ByteArray).data.toList = decide (s.data.toList.head? = some 45) := has_minus _
    rw [hcut, hhas] at HC
    have hN : numV s.data.toList = if (if s.data.toList.head? = some 45 then s.data.toList.tail else s.data.toList) = [] ∨ cstN (if s.data.toList.head? = some 45 then s.data.toList.tail else s.data.toList) < (if s.data.toList.head? = some 45 then s.data.toList.tail else s.data.toList).length then (0, 20) else
        if s.data.toList.head? = some 45 then (wrap64 (-cstV (if s.data.toList.head? = some 45 then s.data.toList.tail else s.data.toList)), 0) else (cstV (if s.data.toList.head? = some 45 then s.data.toList.tail else s.data.toList), 0) := by
      unfold numV
      rw [if_neg h0]
    have hle : (if s.data.toList.head? = some 45 then s.data.toList.tail else s.data.toList).length ≤ s.size := by
      split
      · rw [List.length_tail]; omega
      · omega
    generalize (if s.data.toList.head? = some 45 then s.data.toList.tail else s.data.toList) = d at *
    generalize hb : decide (s.data.toList.head? = some 45) = b at *
    have hNb : numV s.data.toList = if d = [] ∨ cstN d < d.length then (0, 20) else if b = true then (wrap64 (-cstV d), 0) else (cstV d, 0) := by
      rw [hN]
      cases b
      · have : ¬ s.data.toList.head? = some 45 := by simpa using hb
        rw [if_neg this]; simp
      · have : s.data.toList.head? = some 45 := by simpa using hb
        rw [if_pos this]; simp
    have HV := Lib.hid (constant_any (st d) (by rw [st_size]; unfold maxLen; omega))
    rw [st_data] at HV
    have hds : (st d).size = d.length := st_size d
    have hdt : (st d).toList = d := st_toList d
    have HNb := Lib.hid hNb
    have hcl := cstN_le d
    change Hid (∀ w, Calls _ _ _ w fun e w' => e = .returned (.tuple #[.string (st d), .bool b]) ∧ w' = w) at HC
    generalize st d = x at *
    clear hcut hhas hN hNb hb h0
    generalize cstV d = z at *
    generalize cstN d = n at *
    by_cases hd : d = []
    · have g2 : x.toList.isEmpty = true := by rw [hdt, hd]; rfl
      have E := Lib.hid (show numV s.data.toList = (0, 20) by rw [HNb.out, if_pos (.inl hd)])
      clear hd hdt hle hcl
      go_enter Tryd.func103, Tryd.ntmps103
      go_wp2_with (first | (go_at_call 108; (with_reducible refine (HC.out _).mono ?_); rintro e w' ⟨rfl, rfl⟩) | (go_at_call 32; (with_reducible refine (HV.out _).mono ?_); rintro e w' ⟨rfl, rfl⟩))
      go_ret2
      exact ⟨ret_two (by rw [E.out]; rfl) (by rw [E.out]; rfl), rfl⟩
    · have g2 : x.toList.isEmpty = false := by rw [hdt]; cases d with | nil => exact absurd rfl hd | cons _ _ => rfl
      rw [← hds] at hcl hle
      by_cases hlt : n < x.size
      · have E := Lib.hid (show numV s.data.toList = (0, 20) by rw [HNb.out, if_pos (.inr (by omega))])
        have hlt' : (n : Int) < (x.size : Int) := by omega
        clear hd hdt hds hlt
        go_enter Tryd.func103, Tryd.ntmps103
        go_wp2_with (first | (go_at_call 108; (with_reducible refine (HC.out _).mono ?_); rintro e w' ⟨rfl, rfl⟩) | (go_at_call 32; (with_reducible refine (HV.out _).mono ?_); rintro e w' ⟨rfl, rfl⟩))
        go_ret2
        exact ⟨ret_two (by rw [E.out]; rfl) (by rw [E.out]; rfl), rfl⟩
      · have E := Lib.hid (show numV s.data.toList = if b = true then (wrap64 (-z), 0) else (z, 0) by rw [HNb.out, if_neg (fun h => h.elim hd (fun h => by omega))])
        have hlt' : ¬ (n : Int) < (x.size : Int) := by omega
        clear hd hdt hds hlt
        cases b
        all_goals
          go_enter Tryd.func103, Tryd.ntmps103
          go_wp2_with (first | (go_at_call 108; (with_reducible refine (HC.out _).mono ?_); rintro e w' ⟨rfl, rfl⟩) | (go_at_call 32; (with_reducible refine (HV.out _).mono ?_); rintro e w' ⟨rfl, rfl⟩))
          go_ret2
          exact ⟨ret_two (by rw [E.out]; rfl) (by rw [E.out]; rfl), rfl⟩
end Go.Proofs.YtncjelemjdkklaaDoor
