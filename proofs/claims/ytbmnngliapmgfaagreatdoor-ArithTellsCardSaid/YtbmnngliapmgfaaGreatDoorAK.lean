/- Contracts of the program's unary: it counts itself as open, and is let go of behind it. -/
import Derived.Test.YtbmnngliapmgfaaGreatDoorAJ
namespace Go.Proofs.YtbmnngliapmgfaaGreatDoor
open Go.RowKit
set_option linter.unusedVariables false
set_option linter.unusedSimpArgs false
section
variable {fn : Func} {tmps : Array Value} {w W : World} {pb o : Nat} {v : Value}
/-- the door, behind a panic. -/
theorem door_bad (hP : PW w pb) (hF : Fr (· = pb) W w) :
    bodyPostD Tryz.prog fn (ndPost pb o W none) (.panic bad) { tmps := tmps, defers := [{ target := .fn (.func 33) #[], args := #[.pointer (some ⟨pb, 0, none⟩)] }] } w := by
  show Leaves Tryz.prog fn tmps (ndPost pb o W none) [{ target := .fn (.func 33) #[], args := #[.pointer (some ⟨pb, 0, none⟩)] }] (.panicking bad) w
  refine leaves_cons (f := 33) (args := #[.pointer (some ⟨pb, 0, none⟩)]) (by simp) (by simp [go_sem]) ?_
  refine (leave_weak hP _).mono ?_
  rintro e u' w' ⟨rfl, rfl, hP', hF'⟩
  exact ⟨rfl, hP', hF.trans hF'⟩
/-- the door, behind a result. -/
theorem door_ret {n : Nd} {ts : List Bs} {k : Nat} (hv : v = enc n) (hP : PT w pb (o + 1) ts) (hF : Fr (· = pb) W w) (hr : fn.results = #[.tmp k]) (hk : tmps.getD k undef = v) :
    bodyPostD Tryz.prog fn (ndPost pb o W (some (n, ts))) .ret { tmps := tmps, defers := [{ target := .fn (.func 33) #[], args := #[.pointer (some ⟨pb, 0, none⟩)] }] } w := by
  show Leaves Tryz.prog fn tmps (ndPost pb o W (some (n, ts))) [{ target := .fn (.func 33) #[], args := #[.pointer (some ⟨pb, 0, none⟩)] }] .returning w
  refine leaves_cons (f := 33) (args := #[.pointer (some ⟨pb, 0, none⟩)]) (by simp) (by simp [go_sem]) ?_
  refine (leave_any hP _).mono ?_
  rintro e u' w' ⟨rfl, rfl, hP', hF'⟩
  exact ⟨_, results_tmp hr _ _ _, ret_val (hk.trans hv), hP', hF.trans hF'⟩
/-- nothing was laid ahead of the panic. -/
theorem door_deep (hP : PW w pb) (hF : Fr (· = pb) W w) : bodyPostD Tryz.prog fn (ndPost pb o W none) (.panic bad) { tmps := tmps, defers := [] } w := ⟨rfl, hP, hF⟩
end
theorem st_eq (t c : Bs) : ((st t).toList == c) = (t == c) := by rw [st_toList]
theorem st_of_list (x : ByteArray) (t : Bs) (h : x.data.toList = t) : x = st t := by rw [← h, st_of]
theorem un_deep (pb f o : Nat) (ts : List Bs) (W : World) (h : PT W pb o ts) (ho : 24 < o) : Calls Tryz.prog 91 #[.pointer (some ⟨pb, 0, none⟩)] W (ndPost pb o W none) := by
  have HE := Lib.hid (enter_deep h ho)
  have HW := Lib.hid h.weak
  clear h
  go_enter_defers Tryz.func91, Tryz.ntmps91
  go_wp2_with (go_at_call 32; (with_reducible refine HE.out.mono ?_); rintro e w1 ⟨rfl, rfl⟩)
  exact door_deep HW.out (Fr.refl _ _)
theorem un_none (pb o : Nat) (W : World) (h : PT W pb o []) (ho : o ≤ 24) : Calls Tryz.prog 91 #[.pointer (some ⟨pb, 0, none⟩)] W (ndPost pb o W none) := by
  have HE := Lib.hid (enter_any h ho)
  clear h
  go_enter_defers Tryz.func91, Tryz.ntmps91
  go_wp2_with (first
    | (go_at_call 32; (with_reducible refine HE.out.mono ?_); rintro e w1 ⟨rfl, hP, hF⟩; have HP1 := Lib.hid hP; have HF1 := Lib.hid hF; clear hP hF)
    | (go_at_call 37; (with_reducible refine (take_none HP1.out).mono ?_); rintro e w2 ⟨rfl, rfl⟩))
  exact door_bad HP1.out.weak HF1.out
/-- a prefix operator. -/
theorem un_pre (pb f o : Nat) (t : Bs) (r : List Bs) (W : World) (h : PT W pb o (t :: r)) (ho : o ≤ 24) (hg : preL.contains t = true) (hU : Does pb f .un 91) (hf : enough .un r.length ≤ f) :
    Calls Tryz.prog 91 #[.pointer (some ⟨pb, 0, none⟩)] W (ndPost pb o W ((pP f .un (o + 1) r).map fun x => (.pre t x.1, x.2))) := by
  have HE := Lib.hid (enter_any h ho)
  have hg4 : t = [43] ∨ t = [45] ∨ t = [126] ∨ t = [33] := by
    have := List.contains_iff_mem.1 hg
    simpa [preL] using this
  have hb : ((st t).toList == [43]) = true ∨ (((st t).toList == [43]) = false ∧ ((st t).toList == [45]) = true) ∨ (((st t).toList == [43]) = false ∧ ((st t).toList == [45]) = false ∧ ((st t).toList == [126]) = true) ∨
      (((st t).toList == [43]) = false ∧ ((st t).toList == [45]) = false ∧ ((st t).toList == [126]) = false ∧ ((st t).toList == [33]) = true) := by
    simp only [st_eq]
    rcases hg4 with rfl | rfl | rfl | rfl <;> decide
  clear h hg hg4
  have HU := Lib.hid (fun W' (h' : PT W' pb (o + 1) r) => hU (o + 1) r W' h' hf)
  clear hU hf
  obtain ⟨x, hx⟩ : ∃ x, st t = x := ⟨_, rfl⟩
  have HT := Lib.hid (fun W' (h' : PT W' pb (o + 1) (t :: r)) => take_any h')
  have HX := Lib.hid (show Value.string x = .string (st t) by rw [hx])
  rw [hx] at hb HT
  clear hx
  cases hR : pP f .un (o + 1) r with
  | none =>
    rw [hR] at HU
    clear hR
    rcases hb with g1 | ⟨g1, g2⟩ | ⟨g1, g2, g3⟩ | ⟨g1, g2, g3, g4⟩
    all_goals
      go_enter_defers Tryz.func91, Tryz.ntmps91
      go_wp2_with (first
        | (go_at_call 32; (with_reducible refine HE.out.mono ?_); rintro e w1 ⟨rfl, hP, hF⟩; have HP1 := Lib.hid hP; have HF1 := Lib.hid hF; clear hP hF)
        | (go_at_call 37; (with_reducible refine (HT.out _ HP1.out).mono ?_); rintro e w2 ⟨rfl, hP, hF⟩; have HP2 := Lib.hid hP; have HF2 := Lib.hid hF; clear hP hF)
        | (go_at_call 91; (with_reducible refine (HU.out _ HP2.out).mono ?_); rintro e w3 ⟨rfl, hP, hF⟩; have HP3 := Lib.hid hP; have HF3 := Lib.hid hF; clear hP hF))
      exact door_bad HP3.out ((HF1.out.trans HF2.out).trans HF3.out)
  | some y =>
    obtain ⟨y1, r2⟩ := y
    rw [hR] at HU
    clear hR
    obtain ⟨va, vx, hv⟩ := enc_eq y1
    have HV := Lib.hid (show Value.iface 124 (.agg #[.string x, .iface va vx]) = enc (.pre t y1) by rw [HX.out, ← hv]; rfl)
    have HU := Lib.hid (fun W' (h' : PT W' pb (o + 1) r) => (HU.out W' h').mono (fun e w3 (h3 : ndPost pb (o + 1) W' (some (y1, r2)) e w3) => show e = .returned (.iface va vx) ∧ PT w3 pb (o + 1) r2 ∧ Fr (· = pb) W' w3 by rw [← hv]; exact h3))
    clear hv
    rcases hb with g1 | ⟨g1, g2⟩ | ⟨g1, g2, g3⟩ | ⟨g1, g2, g3, g4⟩
    all_goals
      go_enter_defers Tryz.func91, Tryz.ntmps91
      go_wp2_with (first
        | (go_at_call 32; (with_reducible refine HE.out.mono ?_); rintro e w1 ⟨rfl, hP, hF⟩; have HP1 := Lib.hid hP; have HF1 := Lib.hid hF; clear hP hF)
        | (go_at_call 37; (with_reducible refine (HT.out _ HP1.out).mono ?_); rintro e w2 ⟨rfl, hP, hF⟩; have HP2 := Lib.hid hP; have HF2 := Lib.hid hF; clear hP hF)
        | (go_at_call 91; (with_reducible refine (HU.out _ HP2.out).mono ?_); rintro e w3 ⟨rfl, hP, hF⟩; have HP3 := Lib.hid hP; have HF3 := Lib.hid hF; clear hP hF))
      exact door_ret HV.out HP3.out ((HF1.out.trans HF2.out).trans HF3.out) rfl rfl
/-- five tests that fail. -/
theorem un_tests {t : Bs} (hg : preL.contains t = false) : ((st t).toList == [43]) = false ∧ ((st t).toList == [45]) = false ∧ ((st t).toList == [126]) = false ∧ ((st t).toList == [33]) = false := by
  simp only [st_eq]
  have h : ∀ c ∈ preL, (t == c) = false := by
    intro c hc
    rw [beq_eq_false_iff_ne]
    rintro rfl
    rw [List.contains_iff_mem.2 hc] at hg
    cases hg
  exact ⟨h _ (by decide), h _ (by decide), h _ (by decide), h _ (by decide)⟩
/-- what stands within parentheses. -/
theorem un_par (pb f o : Nat) (r : List Bs) (W : World) (h : PT W pb o ([40] :: r)) (ho : o ≤ 24) (hA : Does pb f .asg 22) (hf : enough .asg r.length ≤ f) :
    Calls Tryz.prog 91 #[.pointer (some ⟨pb, 0, none⟩)] W (ndPost pb o W (match pP f .asg (o + 1) r with
        | none => none
        | some (x, r2) => if r2.head? = some [41] then some (x, r2.tail) else none)) := by
  have HE := Lib.hid (enter_any h ho)
  have hb := un_tests (t := [40]) (by decide)
  have g5 : ((st [40]).toList == [40]) = true := by rw [st_eq]; decide
  clear h
  have HA := Lib.hid (fun W' (h' : PT W' pb (o + 1) r) => hA (o + 1) r W' h' hf)
  clear hA hf
  obtain ⟨x, hx⟩ : ∃ x, st [40] = x := ⟨_, rfl⟩
  have HT := Lib.hid (fun W' (h' : PT W' pb (o + 1) ([40] :: r)) => take_any h')
  rw [hx] at hb g5 HT
  clear hx
  obtain ⟨g1, g2, g3, g4⟩ := hb
  cases hR : pP f .asg (o + 1) r with
  | none =>
    rw [hR] at HA
    clear hR
    go_enter_defers Tryz.func91, Tryz.ntmps91
    go_wp2_with (first
      | (go_at_call 32; (with_reducible refine HE.out.mono ?_); rintro e w1 ⟨rfl, hP, hF⟩; have HP1 := Lib.hid hP; have HF1 := Lib.hid hF; clear hP hF)
      | (go_at_call 37; (with_reducible refine (HT.out _ HP1.out).mono ?_); rintro e w2 ⟨rfl, hP, hF⟩; have HP2 := Lib.hid hP; have HF2 := Lib.hid hF; clear hP hF)
      | (go_at_call 22; (with_reducible refine (HA.out _ HP2.out).mono ?_); rintro e w3 ⟨rfl, hP, hF⟩; have HP3 := Lib.hid hP; have HF3 := Lib.hid hF; clear hP hF))
    exact door_bad HP3.out ((HF1.out.trans HF2.out).trans HF3.out)
  | some y =>
    obtain ⟨y1, r2⟩ := y
    rw [hR] at HA
    clear hR
    obtain ⟨va, vx, hv⟩ := enc_eq y1
    have HV := Lib.hid hv.symm
    have HA := Lib.hid (fun W' (h' : PT W' pb (o + 1) r) => (HA.out W' h').mono (fun e w3 (h3 : ndPost pb (o + 1) W' (some (y1, r2)) e w3) => show e = .returned (.iface va vx) ∧ PT w3 pb (o + 1) r2 ∧ Fr (· = pb) W' w3 by rw [← hv]; exact h3))
    clear hv
    dsimp only
    by_cases h41 : r2.head? = some [41]
    · rw [if_pos h41]
      obtain ⟨r3, rfl⟩ : ∃ r3, r2 = [41] :: r3 := by
        cases r2 with
        | nil => cases h41
        | cons c r3 => cases h41; exact ⟨r3, rfl⟩
      have HX := Lib.hid (fun W' (h' : PT W' pb (o + 1) ([41] :: r3)) => show Calls Tryz.prog 52 #[.pointer (some ⟨pb, 0, none⟩), .string ⟨#[41]⟩] W' _ from expect_any (c := [41]) h' rfl)
      clear h41
      go_enter_defers Tryz.func91, Tryz.ntmps91
      go_wp2_with (first
        | (go_at_call 32; (with_reducible refine HE.out.mono ?_); rintro e w1 ⟨rfl, hP, hF⟩; have HP1 := Lib.hid hP; have HF1 := Lib.hid hF; clear hP hF)
        | (go_at_call 37; (with_reducible refine (HT.out _ HP1.out).mono ?_); rintro e w2 ⟨rfl, hP, hF⟩; have HP2 := Lib.hid hP; have HF2 := Lib.hid hF; clear hP hF)
        | (go_at_call 22; (with_reducible refine (HA.out _ HP2.out).mono ?_); rintro e w3 ⟨rfl, hP, hF⟩; have HP3 := Lib.hid hP; have HF3 := Lib.hid hF; clear hP hF)
        | (go_at_call 52; (with_reducible refine (HX.out _ HP3.out).mono ?_); rintro e w4 ⟨rfl, hP, hF⟩; have HP4 := Lib.hid hP; have HF4 := Lib.hid hF; clear hP hF))
      exact door_ret HV.out HP4.out (((HF1.out.trans HF2.out).trans HF3.out).trans HF4.out) rfl rfl
    · rw [if_neg h41]
      have HX := Lib.hid (fun W' (h' : PT W' pb (o + 1) r2) => show Calls Tryz.prog 52 #[.pointer (some ⟨pb, 0, none⟩), .string ⟨#[41]⟩] W' _ from expect_not (c := [41]) h' h41)
      clear h41
      go_enter_defers Tryz.func91, Tryz.ntmps91
      go_wp2_with (first
        | (go_at_call 32; (with_reducible refine HE.out.mono ?_); rintro e w1 ⟨rfl, hP, hF⟩; have HP1 := Lib.hid hP; have HF1 := Lib.hid hF; clear hP hF)
        | (go_at_call 37; (with_reducible refine (HT.out _ HP1.out).mono ?_); rintro e w2 ⟨rfl, hP, hF⟩; have HP2 := Lib.hid hP; have HF2 := Lib.hid hF; clear hP hF)
        | (go_at_call 22; (with_reducible refine (HA.out _ HP2.out).mono ?_); rintro e w3 ⟨rfl, hP, hF⟩; have HP3 := Lib.hid hP; have HF3 := Lib.hid hF; clear hP hF)
        | (go_at_call 52; (with_reducible refine (HX.out _ HP3.out).mono ?_); rintro e w4 ⟨rfl, hP, hF⟩; have HP4 := Lib.hid hP; have HF4 := Lib.hid hF; clear hP hF))
      exact door_bad HP4.out (((HF1.out.trans HF2.out).trans HF3.out).trans HF4.out)
/-- a constant, a name, or nothing of these. -/
theorem un_rest (pb f o : Nat) (t : Bs) (r : List Bs) (W : World) (h : PT W pb o (t :: r)) (ho : o ≤ 24) (hg : preL.contains t = false) (h40 : t ≠ [40]) :
    Calls Tryz.prog 91 #[.pointer (some ⟨pb, 0, none⟩)] W (ndPost pb o W (if isC t = true then some (.num (cstV t), r) else if isN t = true then some (.nam t, r) else none)) := by
  have HE := Lib.hid (enter_any h ho)
  have hb := un_tests hg
  have g5 : ((st t).toList == [40]) = false := by rw [st_eq, beq_eq_false_iff_ne]; exact h40
  obtain ⟨hne, hle⟩ : t ≠ [] ∧ t.length ≤ 256 := by
    obtain ⟨tb, off, cap, _, _, _, _, _, _, h7, _⟩ := h
    exact h7 t (by simp)
  have hs0 : 0 < (st t).size := by
    rw [st_size]
    exact List.length_pos_iff.2 hne
  have HC := Lib.hid (isConstant_any (st t) hs0)
  have HN := Lib.hid (isName_any (st t) hs0)
  have HV := Lib.hid (constant_any (st t) (by rw [st_size]; unfold maxLen; omega))
  have HT := Lib.hid (fun W' (h' : PT W' pb (o + 1) (t :: r)) => take_any h')
  rw [st_data] at HC HN HV
  have HX := Lib.hid (show Value.iface 125 (.string (st t)) = enc (.nam t) from rfl)
  have HY := Lib.hid (show Value.iface 57 (.int .i64 (cstV t)) = enc (.num (cstV t)) from rfl)
  clear h hg h40 hne hle hs0
  obtain ⟨g1, g2, g3, g4⟩ := hb
  generalize st t = x at *
  generalize cstV t = z at *
  cases hc : isC t
  · rw [if_neg (by decide)]
    rw [hc] at HC
    clear hc
    cases hn : isN t
    · rw [if_neg (by decide)]
      rw [hn] at HN
      clear hn
      go_enter_defers Tryz.func91, Tryz.ntmps91
      go_wp2_with (first
        | (go_at_call 32; (with_reducible refine HE.out.mono ?_); rintro e w1 ⟨rfl, hP, hF⟩; have HP1 := Lib.hid hP; have HF1 := Lib.hid hF; clear hP hF)
        | (go_at_call 37; (with_reducible refine (HT.out _ HP1.out).mono ?_); rintro e w2 ⟨rfl, hP, hF⟩; have HP2 := Lib.hid hP; have HF2 := Lib.hid hF; clear hP hF)
        | (go_at_call 45; (with_reducible refine (HC.out _).mono ?_); rintro e w3 ⟨rfl, rfl⟩)
        | (go_at_call 34; (with_reducible refine (HN.out _).mono ?_); rintro e w3 ⟨rfl, rfl⟩))
      exact door_bad HP2.out.weak (HF1.out.trans HF2.out)
    · rw [if_pos rfl]
      rw [hn] at HN
      clear hn
      go_enter_defers Tryz.func91, Tryz.ntmps91
      go_wp2_with (first
        | (go_at_call 32; (with_reducible refine HE.out.mono ?_); rintro e w1 ⟨rfl, hP, hF⟩; have HP1 := Lib.hid hP; have HF1 := Lib.hid hF; clear hP hF)
        | (go_at_call 37; (with_reducible refine (HT.out _ HP1.out).mono ?_); rintro e w2 ⟨rfl, hP, hF⟩; have HP2 := Lib.hid hP; have HF2 := Lib.hid hF; clear hP hF)
        | (go_at_call 45; (with_reducible refine (HC.out _).mono ?_); rintro e w3 ⟨rfl, rfl⟩)
        | (go_at_call 34; (with_reducible refine (HN.out _).mono ?_); rintro e w3 ⟨rfl, rfl⟩))
      exact door_ret HX.out HP2.out (HF1.out.trans HF2.out) rfl rfl
  · rw [if_pos rfl]
    rw [hc] at HC
    clear hc
    go_enter_defers Tryz.func91, Tryz.ntmps91
    go_wp2_with (first
      | (go_at_call 32; (with_reducible refine HE.out.mono ?_); rintro e w1 ⟨rfl, hP, hF⟩; have HP1 := Lib.hid hP; have HF1 := Lib.hid hF; clear hP hF)
      | (go_at_call 37; (with_reducible refine (HT.out _ HP1.out).mono ?_); rintro e w2 ⟨rfl, hP, hF⟩; have HP2 := Lib.hid hP; have HF2 := Lib.hid hF; clear hP hF)
      | (go_at_call 45; (with_reducible refine (HC.out _).mono ?_); rintro e w3 ⟨rfl, rfl⟩)
      | (go_at_call 46; (with_reducible refine (HV.out _).mono ?_); rintro e w3 ⟨rfl, rfl⟩))
    exact door_ret HY.out HP2.out (HF1.out.trans HF2.out) rfl rfl
theorem un_any (pb f : Nat) (hA : Does pb f .asg 22) (hU : Does pb f .un 91) : Does pb (f + 1) .un 91 := by
  intro o ts W h hf
  by_cases ho : 24 < o
  · rw [pP_deep _ _ _ _ (.inr (.inr rfl)) ho]
    exact un_deep pb f o ts W h ho
  · have ho' : o ≤ 24 := by omega
    cases ts with
    | nil => rw [pP_un0]; exact un_none pb o W h ho'
    | cons t r =>
      rw [pP_un, if_neg ho]
      simp only [enough, List.length_cons] at hf
      cases hg : preL.contains t
      · rw [if_neg (by decide)]
        by_cases h40 : t = [40]
        · subst h40
          rw [if_pos rfl]
          exact un_par pb f o r W h ho' hA (by simp only [enough]; omega)
        · rw [if_neg h40]
          exact un_rest pb f o t r W h ho' hg h40
      · rw [if_pos rfl]
        exact un_pre pb f o t r W h ho' hg hU (by simp only [enough]; omega)
end Go.Proofs.YtbmnngliapmgfaaGreatDoor
