/- Contract of the program's assignment, and of all that reads nodes. -/
import Derived.Test.YtbmnngliapmgfaaGreatDoorAM0
namespace Go.Proofs.YtbmnngliapmgfaaGreatDoor
open Go.RowKit
set_option linter.unusedVariables false
set_option linter.unusedSimpArgs false
theorem asg_deep (pb f o : Nat) (ts : List Bs) (W : World) (h : PT W pb o ts) (ho : 24 < o) : Calls Tryz.prog 22 #[.pointer (some ⟨pb, 0, none⟩)] W (ndPost pb o W none) := by
  have HE := Lib.hid (enter_deep h ho)
  have HW := Lib.hid h.weak
  clear h
  go_enter_defers Tryz.func22, Tryz.ntmps22
  go_wp2_with (go_at_call 32; (with_reducible refine HE.out.mono ?_); rintro e w1 ⟨rfl, rfl⟩)
  exact door_deep HW.out (Fr.refl _ _)
/-- no assignment: what a choice answers. -/
theorem asg_short (pb f o : Nat) (ts : List Bs) (W : World) (h : PT W pb o ts) (ho : o ≤ 24) (hl : ts.length < 2) (R : Option (Nd × List Bs)) (HC0 : ∀ W', PT W' pb (o + 1) ts → Calls Tryz.prog 36 #[.pointer (some ⟨pb, 0, none⟩)] W' (ndPost pb (o + 1) W' R)) :
    Calls Tryz.prog 22 #[.pointer (some ⟨pb, 0, none⟩)] W (ndPost pb o W R) := by
  have HE := Lib.hid (enter_any h ho)
  clear h
  cases R with
  | none =>
    have HC := Lib.hid (fun W' h' => nd_none (HC0 W' h'))
    clear HC0
    go_enter_defers Tryz.func22, Tryz.ntmps22
    go_wp2_with (first
      | (go_at_call 32; (with_reducible refine HE.out.mono ?_); rintro e w1 ⟨rfl, hP, hF⟩; have HP1 := Lib.hid hP; have HF1 := Lib.hid hF; obtain ⟨tb, off, cap, c0, -, -, hcap, hmax, hcell, -, -, -⟩ := hP.cells; clear hP hF hcell; unfold maxLen at hmax)
      | (go_at_call 36; (with_reducible refine (HC.out _ HP1.out).mono ?_); rintro e w2 ⟨rfl, hP, hF⟩; have HP2 := Lib.hid hP; have HF2 := Lib.hid hF; clear hP hF))
    exact door_bad HP2.out (HF1.out.trans HF2.out)
  | some y =>
    obtain ⟨n, r⟩ := y
    obtain ⟨va, vx, hv⟩ := enc_eq n
    have HC := Lib.hid (fun W' h' => nd_open (HC0 W' h') hv)
    have HV := Lib.hid hv.symm
    clear HC0 hv
    go_enter_defers Tryz.func22, Tryz.ntmps22
    go_wp2_with (first
      | (go_at_call 32; (with_reducible refine HE.out.mono ?_); rintro e w1 ⟨rfl, hP, hF⟩; have HP1 := Lib.hid hP; have HF1 := Lib.hid hF; obtain ⟨tb, off, cap, c0, -, -, hcap, hmax, hcell, -, -, -⟩ := hP.cells; clear hP hF hcell; unfold maxLen at hmax)
      | (go_at_call 36; (with_reducible refine (HC.out _ HP1.out).mono ?_); rintro e w2 ⟨rfl, hP, hF⟩; have HP2 := Lib.hid hP; have HF2 := Lib.hid hF; clear hP hF))
    exact door_ret HV.out HP2.out (HF1.out.trans HF2.out) rfl rfl
theorem two_cells {w : World} {tb off : Nat} {a b : Bs} {r : List Bs} (h : ∀ i t, (a :: b :: r)[i]? = some t → w.cell? ⟨tb, off + i, none⟩ = some (cellS t)) : w.cell? ⟨tb, off, none⟩ = some (.string (st a)) ∧ w.cell? ⟨tb, off + 1, none⟩ = some (.string (st b)) :=
  ⟨h 0 a rfl, h 1 b rfl⟩
/-- no assignment: what a choice answers. -/
theorem asg_not (pb f o : Nat) (a b : Bs) (q : List Bs) (W : World) (h : PT W pb o (a :: b :: q)) (ho : o ≤ 24) (hn : (isN a && isAsg b) = false) (R : Option (Nd × List Bs)) (HC0 : ∀ W', PT W' pb (o + 1) (a :: b :: q) → Calls Tryz.prog 36 #[.pointer (some ⟨pb, 0, none⟩)] W' (ndPost pb (o + 1) W' R)) :
    Calls Tryz.prog 22 #[.pointer (some ⟨pb, 0, none⟩)] W (ndPost pb o W R) := by
  have hne : a ≠ [] := by
    obtain ⟨tb, off, cap, _, _, _, _, _, _, h7, _⟩ := h
    exact (h7 a (by simp)).1
  have hs0 : 0 < (st a).size := by
    rw [st_size]
    exact List.length_pos_iff.2 hne
  have HN := Lib.hid (isName_any (st a) hs0)
  have HG := Lib.hid (isAssign_any (st b))
  rw [st_data] at HN HG
  have HE := Lib.hid (enter_any h ho)
  clear h hne hs0
  have HCC : (∀ W', PT W' pb (o + 1) (a :: b :: q) → Calls Tryz.prog 36 #[.pointer (some ⟨pb, 0, none⟩)] W' (ndPost pb (o + 1) W' R)) := HC0
  cases hna : isN a
  · rw [hna] at HN
    clear hn hna
    cases R with
    | none =>
      have HC := Lib.hid (fun W' h' => nd_none (HC0 W' h'))
      clear HC0 HCC
      go_enter_defers Tryz.func22, Tryz.ntmps22
      go_wp2_with (first
        | (go_at_call 32; (with_reducible refine HE.out.mono ?_); rintro e w1 ⟨rfl, hP, hF⟩; have HP1 := Lib.hid hP; have HF1 := Lib.hid hF; obtain ⟨tb, off, cap, c0, -, -, hcap, hmax, hcell, -, -, -⟩ := hP.cells; obtain ⟨k0, k1⟩ := two_cells hcell; clear hP hF hcell; unfold maxLen at hmax; rw [List.length_cons, List.length_cons] at c0 hcap)
        | (go_at_call 34; (with_reducible refine (HN.out _).mono ?_); rintro e w2' ⟨rfl, rfl⟩)
        | (go_at_call 36; (with_reducible refine (HC.out _ HP1.out).mono ?_); rintro e w2 ⟨rfl, hP, hF⟩; have HP2 := Lib.hid hP; have HF2 := Lib.hid hF; clear hP hF))
      exact door_bad HP2.out (HF1.out.trans HF2.out)
    | some y =>
      obtain ⟨n, r⟩ := y
      obtain ⟨va, vx, hv⟩ := enc_eq n
      have HC := Lib.hid (fun W' h' => nd_open (HC0 W' h') hv)
      have HV := Lib.hid hv.symm
      clear HC0 HCC hv
      go_enter_defers Tryz.func22, Tryz.ntmps22
      go_wp2_with (first
        | (go_at_call 32; (with_reducible refine HE.out.mono ?_); rintro e w1 ⟨rfl, hP, hF⟩; have HP1 := Lib.hid hP; have HF1 := Lib.hid hF; obtain ⟨tb, off, cap, c0, -, -, hcap, hmax, hcell, -, -, -⟩ := hP.cells; obtain ⟨k0, k1⟩ := two_cells hcell; clear hP hF hcell; unfold maxLen at hmax; rw [List.length_cons, List.length_cons] at c0 hcap)
        | (go_at_call 34; (with_reducible refine (HN.out _).mono ?_); rintro e w2' ⟨rfl, rfl⟩)
        | (go_at_call 36; (with_reducible refine (HC.out _ HP1.out).mono ?_); rintro e w2 ⟨rfl, hP, hF⟩; have HP2 := Lib.hid hP; have HF2 := Lib.hid hF; clear hP hF))
      exact door_ret HV.out HP2.out (HF1.out.trans HF2.out) rfl rfl
  · rw [hna] at HN hn
    rw [Bool.true_and] at hn
    rw [hn] at HG
    clear hn hna
    cases R with
    | none =>
      have HC := Lib.hid (fun W' h' => nd_none (HC0 W' h'))
      clear HC0 HCC
      go_enter_defers Tryz.func22, Tryz.ntmps22
      go_wp2_with (first
        | (go_at_call 32; (with_reducible refine HE.out.mono ?_); rintro e w1 ⟨rfl, hP, hF⟩; have HP1 := Lib.hid hP; have HF1 := Lib.hid hF; obtain ⟨tb, off, cap, c0, -, -, hcap, hmax, hcell, -, -, -⟩ := hP.cells; obtain ⟨k0, k1⟩ := two_cells hcell; clear hP hF hcell; unfold maxLen at hmax; rw [List.length_cons, List.length_cons] at c0 hcap)
        | (go_at_call 34; (with_reducible refine (HN.out _).mono ?_); rintro e w2' ⟨rfl, rfl⟩)
        | (go_at_call 35; (with_reducible refine (HG.out _).mono ?_); rintro e w2' ⟨rfl, rfl⟩)
        | (go_at_call 36; (with_reducible refine (HC.out _ HP1.out).mono ?_); rintro e w2 ⟨rfl, hP, hF⟩; have HP2 := Lib.hid hP; have HF2 := Lib.hid hF; clear hP hF))
      exact door_bad HP2.out (HF1.out.trans HF2.out)
    | some y =>
      obtain ⟨n, r⟩ := y
      obtain ⟨va, vx, hv⟩ := enc_eq n
      have HC := Lib.hid (fun W' h' => nd_open (HC0 W' h') hv)
      have HV := Lib.hid hv.symm
      clear HC0 HCC hv
      go_enter_defers Tryz.func22, Tryz.ntmps22
      go_wp2_with (first
        | (go_at_call 32; (with_reducible refine HE.out.mono ?_); rintro e w1 ⟨rfl, hP, hF⟩; have HP1 := Lib.hid hP; have HF1 := Lib.hid hF; obtain ⟨tb, off, cap, c0, -, -, hcap, hmax, hcell, -, -, -⟩ := hP.cells; obtain ⟨k0, k1⟩ := two_cells hcell; clear hP hF hcell; unfold maxLen at hmax; rw [List.length_cons, List.length_cons] at c0 hcap)
        | (go_at_call 34; (with_reducible refine (HN.out _).mono ?_); rintro e w2' ⟨rfl, rfl⟩)
        | (go_at_call 35; (with_reducible refine (HG.out _).mono ?_); rintro e w2' ⟨rfl, rfl⟩)
        | (go_at_call 36; (with_reducible refine (HC.out _ HP1.out).mono ?_); rintro e w2 ⟨rfl, hP, hF⟩; have HP2 := Lib.hid hP; have HF2 := Lib.hid hF; clear hP hF))
      exact door_ret HV.out HP2.out (HF1.out.trans HF2.out) rfl rfl
end Go.Proofs.YtbmnngliapmgfaaGreatDoor
