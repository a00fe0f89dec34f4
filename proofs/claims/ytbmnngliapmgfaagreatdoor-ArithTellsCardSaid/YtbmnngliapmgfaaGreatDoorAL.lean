/- Contract of the program's choice. -/
import Derived.Test.YtbmnngliapmgfaaGreatDoorAK
namespace Go.Proofs.YtbmnngliapmgfaaGreatDoor
open Go.RowKit
set_option linter.unusedVariables false
set_option linter.unusedSimpArgs false
/-- what reads a node, its value in the open. -/
theorem nd_open {pb o fn : Nat} {args : Array Value} {W : World} {n : Nd} {r : List Bs} {va : TypeId} {vx : Value} (h : Calls Tryz.prog fn args W (ndPost pb o W (some (n, r)))) (hv : enc n = .iface va vx) :
    Calls Tryz.prog fn args W fun e w' => e = .returned (.iface va vx) ∧ PT w' pb o r ∧ Fr (· = pb) W w' :=
  h.mono fun e w' h' => by rw [← hv]; exact h'
theorem nd_none {pb o fn : Nat} {args : Array Value} {W : World} (h : Calls Tryz.prog fn args W (ndPost pb o W none)) :
    Calls Tryz.prog fn args W fun e w' => e = .panicked bad ∧ PW w' pb ∧ Fr (· = pb) W w' := h
theorem cho_deep (pb f o : Nat) (ts : List Bs) (W : World) (h : PT W pb o ts) (ho : 24 < o) : Calls Tryz.prog 36 #[.pointer (some ⟨pb, 0, none⟩)] W (ndPost pb o W none) := by
  have HE := Lib.hid (enter_deep h ho)
  have HW := Lib.hid h.weak
  clear h
  go_enter_defers Tryz.func36, Tryz.ntmps36
  go_wp2_with (go_at_call 32; (with_reducible refine HE.out.mono ?_); rintro e w1 ⟨rfl, rfl⟩)
  exact door_deep HW.out (Fr.refl _ _)
theorem st_neq (t c : Bs) : ((st t).toList != c) = (t != c) := by rw [st_toList]
set_option maxHeartbeats 2000000 in
theorem cho_any (pb f : Nat) (hL : Does pb f (.lev 0) 50) (hA : Does pb f .asg 22) (hC : Does pb f .cho 36) : Does pb (f + 1) .cho 36 := by
  intro o ts W h hf
  by_cases ho : 24 < o
  · rw [pP_deep _ _ _ _ (.inr (.inl rfl)) ho]
    exact cho_deep pb f o ts W h ho
  have ho' : o ≤ 24 := by omega
  rw [pP_cho, if_neg ho]
  simp only [enough] at hf
  have HE := Lib.hid (enter_any h ho')
  have HL0 := fun W' (h' : PT W' pb (o + 1) ts) => hL (o + 1) ts W' h' (by simp only [enough]; omega)
  clear h hL
  cases h1 : pP f (.lev 0) (o + 1) ts with
  | none =>
    rw [h1] at HL0
    have HL := Lib.hid (fun W' h' => nd_none (HL0 W' h'))
    clear HL0 h1 hA hC
    go_enter_defers Tryz.func36, Tryz.ntmps36
    go_wp2_with (first
      | (go_at_call 32; (with_reducible refine HE.out.mono ?_); rintro e w1 ⟨rfl, hP, hF⟩; have HP1 := Lib.hid hP; have HF1 := Lib.hid hF; clear hP hF)
      | (go_at_call 50; (with_reducible refine (HL.out _ HP1.out).mono ?_); rintro e w2 ⟨rfl, hP, hF⟩; have HP2 := Lib.hid hP; have HF2 := Lib.hid hF; clear hP hF))
    exact door_bad HP2.out (HF1.out.trans HF2.out)
  | some y =>
    obtain ⟨c, r⟩ := y
    rw [h1] at HL0
    obtain ⟨ca, cx, hc⟩ := enc_eq c
    have HL := Lib.hid (fun W' h' => nd_open (HL0 W' h') hc)
    have HVC := Lib.hid hc.symm
    have hlr := pP_le _ _ _ _ _ _ h1
    clear HL0 h1
    dsimp only
    by_cases h63 : r.head? = some [63]
    · rw [if_pos h63]
      obtain ⟨r1, rfl⟩ : ∃ r1, r = [63] :: r1 := by
        cases r with
        | nil => cases h63
        | cons c r3 => cases h63; exact ⟨r3, rfl⟩
      have HN := Lib.hid (fun W' (h' : PT W' pb (o + 1) ([63] :: r1)) => next_any h')
      have HT := Lib.hid (fun W' (h' : PT W' pb (o + 1) ([63] :: r1)) => take_any h')
      have g : ((st ([63] : Bs)).toList == [63]) = true := by rw [st_eq]; decide
      simp only [List.headD_cons] at HN
      obtain ⟨x, hx⟩ : ∃ x, st [63] = x := ⟨_, rfl⟩
      rw [hx] at HN HT g
      clear h63 hx
      rw [List.length_cons] at hlr
      have HA0 := fun W' (h' : PT W' pb (o + 1) r1) => hA (o + 1) r1 W' h' (by simp only [enough]; omega)
      clear hA
      rw [List.tail_cons]
      cases h2 : pP f .asg (o + 1) r1 with
      | none =>
        rw [h2] at HA0
        have HA := Lib.hid (fun W' h' => nd_none (HA0 W' h'))
        clear HA0 h2 hC hc
        go_enter_defers Tryz.func36, Tryz.ntmps36
        go_wp2_with (first
          | (go_at_call 32; (with_reducible refine HE.out.mono ?_); rintro e w1 ⟨rfl, hP, hF⟩; have HP1 := Lib.hid hP; have HF1 := Lib.hid hF; clear hP hF)
          | (go_at_call 50; (with_reducible refine (HL.out _ HP1.out).mono ?_); rintro e w2 ⟨rfl, hP, hF⟩; have HP2 := Lib.hid hP; have HF2 := Lib.hid hF; clear hP hF)
          | (go_at_call 51; (with_reducible refine (HN.out _ HP2.out).mono ?_); rintro e w2' ⟨rfl, rfl⟩)
          | (go_at_call 37; (with_reducible refine (HT.out _ HP2.out).mono ?_); rintro e w3 ⟨rfl, hP, hF⟩; have HP3 := Lib.hid hP; have HF3 := Lib.hid hF; clear hP hF)
          | (go_at_call 22; (with_reducible refine (HA.out _ HP3.out).mono ?_); rintro e w4 ⟨rfl, hP, hF⟩; have HP4 := Lib.hid hP; have HF4 := Lib.hid hF; clear hP hF))
        exact door_bad HP4.out (((HF1.out.trans HF2.out).trans HF3.out).trans HF4.out)
      | some y =>
        obtain ⟨n2, r2⟩ := y
        rw [h2] at HA0
        obtain ⟨ya, yx, hy⟩ := enc_eq n2
        have HA := Lib.hid (fun W' h' => nd_open (HA0 W' h') hy)
        have hlr2 := pP_le _ _ _ _ _ _ h2
        clear HA0 h2
        dsimp only
        by_cases h58 : r2.head? = some [58]
        · rw [if_pos h58]
          obtain ⟨r3, rfl⟩ : ∃ r3, r2 = [58] :: r3 := by
            cases r2 with
            | nil => cases h58
            | cons c r3 => cases h58; exact ⟨r3, rfl⟩
          have HX := Lib.hid (fun W' (h' : PT W' pb (o + 1) ([58] :: r3)) => show Calls Tryz.prog 52 #[.pointer (some ⟨pb, 0, none⟩), .string ⟨#[58]⟩] W' _ from expect_any (c := [58]) h' rfl)
          rw [List.length_cons] at hlr2
          have HC0 := fun W' (h' : PT W' pb (o + 1) r3) => hC (o + 1) r3 W' h' (by simp only [enough]; omega)
          clear hC h58
          rw [List.tail_cons]
          cases h3 : pP f .cho (o + 1) r3 with
          | none =>
            rw [h3] at HC0
            have HC := Lib.hid (fun W' h' => nd_none (HC0 W' h'))
            clear HC0 h3 hc hy
            go_enter_defers Tryz.func36, Tryz.ntmps36
            go_wp2_with (first
              | (go_at_call 32; (with_reducible refine HE.out.mono ?_); rintro e w1 ⟨rfl, hP, hF⟩; have HP1 := Lib.hid hP; have HF1 := Lib.hid hF; clear hP hF)
              | (go_at_call 50; (with_reducible refine (HL.out _ HP1.out).mono ?_); rintro e w2 ⟨rfl, hP, hF⟩; have HP2 := Lib.hid hP; have HF2 := Lib.hid hF; clear hP hF)
              | (go_at_call 51; (with_reducible refine (HN.out _ HP2.out).mono ?_); rintro e w2' ⟨rfl, rfl⟩)
              | (go_at_call 37; (with_reducible refine (HT.out _ HP2.out).mono ?_); rintro e w3 ⟨rfl, hP, hF⟩; have HP3 := Lib.hid hP; have HF3 := Lib.hid hF; clear hP hF)
              | (go_at_call 22; (with_reducible refine (HA.out _ HP3.out).mono ?_); rintro e w4 ⟨rfl, hP, hF⟩; have HP4 := Lib.hid hP; have HF4 := Lib.hid hF; clear hP hF)
              | (go_at_call 52; (with_reducible refine (HX.out _ HP4.out).mono ?_); rintro e w5 ⟨rfl, hP, hF⟩; have HP5 := Lib.hid hP; have HF5 := Lib.hid hF; clear hP hF)
              | (go_at_call 36; (with_reducible refine (HC.out _ HP5.out).mono ?_); rintro e w6 ⟨rfl, hP, hF⟩; have HP6 := Lib.hid hP; have HF6 := Lib.hid hF; clear hP hF))
            exact door_bad HP6.out (((((HF1.out.trans HF2.out).trans HF3.out).trans HF4.out).trans HF5.out).trans HF6.out)
          | some y =>
            obtain ⟨n3, r4⟩ := y
            rw [h3] at HC0
            obtain ⟨za, zx, hz⟩ := enc_eq n3
            have HC := Lib.hid (fun W' h' => nd_open (HC0 W' h') hz)
            have HV := Lib.hid (show Value.iface 87 (.agg #[.iface ca cx, .iface ya yx, .iface za zx]) = enc (.cho c n2 n3) by rw [← hc, ← hy, ← hz]; rfl)
            clear HC0 h3 hc hy hz
            go_enter_defers Tryz.func36, Tryz.ntmps36
            go_wp2_with (first
              | (go_at_call 32; (with_reducible refine HE.out.mono ?_); rintro e w1 ⟨rfl, hP, hF⟩; have HP1 := Lib.hid hP; have HF1 := Lib.hid hF; clear hP hF)
              | (go_at_call 50; (with_reducible refine (HL.out _ HP1.out).mono ?_); rintro e w2 ⟨rfl, hP, hF⟩; have HP2 := Lib.hid hP; have HF2 := Lib.hid hF; clear hP hF)
              | (go_at_call 51; (with_reducible refine (HN.out _ HP2.out).mono ?_); rintro e w2' ⟨rfl, rfl⟩)
              | (go_at_call 37; (with_reducible refine (HT.out _ HP2.out).mono ?_); rintro e w3 ⟨rfl, hP, hF⟩; have HP3 := Lib.hid hP; have HF3 := Lib.hid hF; clear hP hF)
              | (go_at_call 22; (with_reducible refine (HA.out _ HP3.out).mono ?_); rintro e w4 ⟨rfl, hP, hF⟩; have HP4 := Lib.hid hP; have HF4 := Lib.hid hF; clear hP hF)
              | (go_at_call 52; (with_reducible refine (HX.out _ HP4.out).mono ?_); rintro e w5 ⟨rfl, hP, hF⟩; have HP5 := Lib.hid hP; have HF5 := Lib.hid hF; clear hP hF)
              | (go_at_call 36; (with_reducible refine (HC.out _ HP5.out).mono ?_); rintro e w6 ⟨rfl, hP, hF⟩; have HP6 := Lib.hid hP; have HF6 := Lib.hid hF; clear hP hF))
            exact door_ret HV.out HP6.out (((((HF1.out.trans HF2.out).trans HF3.out).trans HF4.out).trans HF5.out).trans HF6.out) rfl rfl
        · rw [if_neg h58]
          have HX := Lib.hid (fun W' (h' : PT W' pb (o + 1) r2) => show Calls Tryz.prog 52 #[.pointer (some ⟨pb, 0, none⟩), .string ⟨#[58]⟩] W' _ from expect_not (c := [58]) h' h58)
          clear h58 hC hc hy
          go_enter_defers Tryz.func36, Tryz.ntmps36
          go_wp2_with (first
            | (go_at_call 32; (with_reducible refine HE.out.mono ?_); rintro e w1 ⟨rfl, hP, hF⟩; have HP1 := Lib.hid hP; have HF1 := Lib.hid hF; clear hP hF)
            | (go_at_call 50; (with_reducible refine (HL.out _ HP1.out).mono ?_); rintro e w2 ⟨rfl, hP, hF⟩; have HP2 := Lib.hid hP; have HF2 := Lib.hid hF; clear hP hF)
            | (go_at_call 51; (with_reducible refine (HN.out _ HP2.out).mono ?_); rintro e w2' ⟨rfl, rfl⟩)
            | (go_at_call 37; (with_reducible refine (HT.out _ HP2.out).mono ?_); rintro e w3 ⟨rfl, hP, hF⟩; have HP3 := Lib.hid hP; have HF3 := Lib.hid hF; clear hP hF)
            | (go_at_call 22; (with_reducible refine (HA.out _ HP3.out).mono ?_); rintro e w4 ⟨rfl, hP, hF⟩; have HP4 := Lib.hid hP; have HF4 := Lib.hid hF; clear hP hF)
            | (go_at_call 52; (with_reducible refine (HX.out _ HP4.out).mono ?_); rintro e w5 ⟨rfl, hP, hF⟩; have HP5 := Lib.hid hP; have HF5 := Lib.hid hF; clear hP hF))
          exact door_bad HP5.out ((((HF1.out.trans HF2.out).trans HF3.out).trans HF4.out).trans HF5.out)
    · rw [if_neg h63]
      have HN := Lib.hid (fun W' (h' : PT W' pb (o + 1) r) => next_any h')
      have g : ((st (r.headD [])).toList == [63]) = false := by
        rw [st_eq, beq_eq_false_iff_ne]
        intro e
        cases r with
        | nil => cases e
        | cons a q => exact h63 (by rw [← e]; rfl)
      clear h63 hA hC hc
      generalize st (r.headD []) = x at *
      go_enter_defers Tryz.func36, Tryz.ntmps36
      go_wp2_with (first
        | (go_at_call 32; (with_reducible refine HE.out.mono ?_); rintro e w1 ⟨rfl, hP, hF⟩; have HP1 := Lib.hid hP; have HF1 := Lib.hid hF; clear hP hF)
        | (go_at_call 50; (with_reducible refine (HL.out _ HP1.out).mono ?_); rintro e w2 ⟨rfl, hP, hF⟩; have HP2 := Lib.hid hP; have HF2 := Lib.hid hF; clear hP hF)
        | (go_at_call 51; (with_reducible refine (HN.out _ HP2.out).mono ?_); rintro e w2' ⟨rfl, rfl⟩))
      exact door_ret HVC.out HP2.out (HF1.out.trans HF2.out) rfl rfl
end Go.Proofs.YtbmnngliapmgfaaGreatDoor
