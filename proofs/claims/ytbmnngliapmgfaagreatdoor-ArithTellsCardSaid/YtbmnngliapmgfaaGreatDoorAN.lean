/- Contract of the program's assignment where it is one, and of all that reads nodes. -/
import Derived.Test.YtbmnngliapmgfaaGreatDoorAM
namespace Go.Proofs.YtbmnngliapmgfaaGreatDoor
open Go.RowKit
set_option linter.unusedVariables false
set_option linter.unusedSimpArgs false
set_option maxRecDepth 100000 in
set_option maxHeartbeats 4000000 in
theorem asg_yes (pb f o : Nat) (a b : Bs) (q : List Bs) (W : World) (h : PT W pb o (a :: b :: q)) (ho : o ≤ 24) (hna : isN a = true) (hnb : isAsg b = true) (hA : Does pb f .asg 22) (hf : enough .asg q.length ≤ f) :
    Calls Tryz.prog 22 #[.pointer (some ⟨pb, 0, none⟩)] W (ndPost pb o W ((pP f .asg (o + 1) q).map fun x => (.asg a b.dropLast x.1, x.2))) := by
  obtain ⟨hne, hneb, hleb⟩ : a ≠ [] ∧ b ≠ [] ∧ b.length ≤ 256 := by
    obtain ⟨tb, off, cap, _, _, _, _, _, _, h7, _⟩ := h
    exact ⟨(h7 a (by simp)).1, h7 b (by simp)⟩
  have hs0 : 0 < (st a).size := by
    rw [st_size]
    exact List.length_pos_iff.2 hne
  have HN := Lib.hid (isName_any (st a) hs0)
  have HG := Lib.hid (isAssign_any (st b))
  rw [st_data, hna] at HN
  rw [st_data, hnb] at HG
  obtain ⟨m, hm⟩ : ∃ m, b.length = m + 1 := ⟨b.length - 1, by have := List.length_pos_iff.2 hneb; omega⟩
  have hm256 : m ≤ 256 := by omega
  have HE := Lib.hid (enter_any h ho)
  have HT1 := Lib.hid (fun W' (h' : PT W' pb (o + 1) (a :: b :: q)) => take_any h')
  have HT2 := Lib.hid (fun W' (h' : PT W' pb (o + 1) (b :: q)) => take_any h')
  have HD := Lib.hid (show (st b).extract 0 m = st b.dropLast by rw [extract_take, st_data, List.dropLast_eq_take, hm]; rfl)
  have hys : (st b).size = m + 1 := by rw [st_size, hm]
  obtain ⟨y, hy0⟩ : ∃ y, st b = y := ⟨_, rfl⟩
  rw [hy0] at HG HT2 HD hys
  have hys' : (y.size : Int) = (m : Int) + 1 := by omega
  have hwr : IntKind.i64.wrap ((m : Int) + 1 - 1) = (m : Int) := by
    have := IntWalk.i64_in ((m : Int) + 1 - 1) (by omega)
    omega
  have HA0 := fun W' (h' : PT W' pb (o + 1) q) => hA (o + 1) q W' h' hf
  clear h hs0 hne hneb hleb hm hna hnb hA hf
  cases hR : pP f .asg (o + 1) q with
  | none =>
    rw [hR] at HA0
    have HA := Lib.hid (fun W' h' => nd_none (HA0 W' h'))
    clear HA0 hR
    show Calls _ _ _ _ (ndPost pb o W none)
    go_enter_defers Tryz.func22, Tryz.ntmps22
    go_wp2_with (first
      | (go_at_call 32; (with_reducible refine HE.out.mono ?_); rintro e w1 ⟨rfl, hP, hF⟩; have HP1 := Lib.hid hP; have HF1 := Lib.hid hF; obtain ⟨tb, off, cap, c0, -, -, hcap, hmax, hcell, -, -, -⟩ := hP.cells; obtain ⟨k0, k1⟩ := two_cells hcell; clear hP hF hcell; unfold maxLen at hmax; rw [List.length_cons, List.length_cons] at c0 hcap; rw [hy0] at k1)
      | (go_at_call 34; (with_reducible refine (HN.out _).mono ?_); rintro e w2' ⟨rfl, rfl⟩)
      | (go_at_call 35; (with_reducible refine (HG.out _).mono ?_); rintro e w2' ⟨rfl, rfl⟩)
      | (go_at_call 37; (with_reducible refine (HT1.out _ HP1.out).mono ?_); rintro e w2 ⟨rfl, hP, hF⟩; have HP2 := Lib.hid hP; have HF2 := Lib.hid (HF1.out.trans hF); clear hP hF)
      | (go_at_call 37; (with_reducible refine (HT2.out _ HP2.out).mono ?_); rintro e w3 ⟨rfl, hP, hF⟩; have HP3 := Lib.hid hP; have HF3 := Lib.hid (HF2.out.trans hF); clear hP hF hy0 c0 k0 k1))
    go_upto_region 6 with fail
    refine wp_region_pan [{ target := .fn (.func 33) #[], args := #[.pointer (some ⟨pb, 0, none⟩)] }] (fun c w => c = bad ∧ PW w pb ∧ Fr (· = pb) W w) (by rintro c tm w ⟨rfl, hP, hF⟩; exact door_bad hP hF) ?_
    refine wp_region_any (by kernel_rfl) (any_of_T (S := fun _ _ => True) _ _ _ _ ?_)
    change anyT _ _ _ _ _ _ _ _ w3.drew
    have aS : True := trivial
    refine anyT_take (i := 0) (v := .string (st a)) (fun _ => True) rfl (by kernel_rfl) (by kernel_rfl) (by kernel_rfl) (fun _ _ _ h => h) (fun _ _ _ _ hS => hS) (fun _ _ => Iff.rfl) (Clos.start _) (Or.inl ⟨by kernel_rfl, ?ay0⟩) aS (fun ac0 aS0 => ?ar0)
    case ay0 => (intro W hSw; clear hSw; go_simp)
    try simp only [Act.put, List.setIfInBounds_toArray, List.set_cons_zero, List.set_cons_succ]
    refine anyT_take (i := 1) (v := .string y) (fun _ => True) rfl (by kernel_rfl) (by kernel_rfl) (by kernel_rfl) (fun _ _ _ h => h) (fun _ _ _ _ hS => hS) (fun _ _ => Iff.rfl) ac0 (Or.inl ⟨by kernel_rfl, ?ay1⟩) aS0 (fun ac1 aS1 => ?ar1)
    case ay1 => (intro W hSw; clear hSw; go_simp)
    try simp only [Act.put, List.setIfInBounds_toArray, List.set_cons_zero, List.set_cons_succ]
    refine anyT_take (i := 2) (v := .string y) (fun _ => True) rfl (by kernel_rfl) (by kernel_rfl) (by kernel_rfl) (fun _ _ _ h => h) (fun _ _ _ _ hS => hS) (fun _ _ => Iff.rfl) ac1 (Or.inl ⟨by kernel_rfl, ?ay2⟩) aS1 (fun ac2 aS2 => ?ar2)
    case ay2 => (intro W hSw; clear hSw; go_simp)
    try simp only [Act.put, List.setIfInBounds_toArray, List.set_cons_zero, List.set_cons_succ]
    refine anyT_take (i := 3) (v := .int .i64 ((m : Int) + 1)) (fun _ => True) rfl (by kernel_rfl) (by kernel_rfl) (by kernel_rfl) (fun _ _ _ h => h) (fun _ _ _ _ hS => hS) (fun _ _ => Iff.rfl) ac2 (Or.inl ⟨by kernel_rfl, ?ay3⟩) aS2 (fun ac3 aS3 => ?ar3)
    case ay3 => (intro W hSw; clear hSw; go_simp)
    try simp only [Act.put, List.setIfInBounds_toArray, List.set_cons_zero, List.set_cons_succ]
    refine anyT_take (i := 4) (v := .int .i64 m) (fun _ => True) rfl (by kernel_rfl) (by kernel_rfl) (by kernel_rfl) (fun _ _ _ h => h) (fun _ _ _ _ hS => hS) (fun _ _ => Iff.rfl) ac3 (Or.inl ⟨by kernel_rfl, ?ay4⟩) aS3 (fun ac4 aS4 => ?ar4)
    case ay4 => (intro W hSw; clear hSw; go_simp; exact IntWalk.i64_in _ (by omega))
    try simp only [Act.put, List.setIfInBounds_toArray, List.set_cons_zero, List.set_cons_succ]
    refine anyT_take (i := 5) (v := .string (y.extract 0 m)) (fun _ => True) rfl (by kernel_rfl) (by kernel_rfl) (by kernel_rfl) (fun _ _ _ h => h) (fun _ _ _ _ hS => hS) (fun _ _ => Iff.rfl) ac4 (Or.inl ⟨by kernel_rfl, ?ay5⟩) aS4 (fun ac5 aS5 => ?ar5)
    case ay5 => (intro W hSw; clear hSw; go_simp; intro hlt; omega)
    try simp only [Act.put, List.setIfInBounds_toArray, List.set_cons_zero, List.set_cons_succ]
    refine anyT_take (i := 6) (v := .pointer (some ⟨pb, 0, none⟩)) (fun _ => True) rfl (by kernel_rfl) (by kernel_rfl) (by kernel_rfl) (fun _ _ _ h => h) (fun _ _ _ _ hS => hS) (fun _ _ => Iff.rfl) ac5 (Or.inl ⟨by kernel_rfl, ?ay6⟩) aS5 (fun ac6 aS6 => ?ar6)
    case ay6 => (intro W hSw; clear hSw; go_simp)
    try simp only [Act.put, List.setIfInBounds_toArray, List.set_cons_zero, List.set_cons_succ]
    refine anyT_step (k := 7) (by kernel_rfl) rfl (fun K hK => ?as7)
    case as7 =>
      have HK := Lib.hid hK
      clear hK
      go_simp
      refine (HA.out w3.drew (HP3.out.fr (S := fun _ => False) (Fr.refl _ _).drew (fun _ _ => id))).mono ?_
      rintro e w4 ⟨rfl, hP, hF⟩
      exact ⟨rfl, rfl, hP, (HF3.out.drew).trans hF⟩
  | some x =>
    obtain ⟨n, r⟩ := x
    rw [hR] at HA0
    obtain ⟨va, vx, hv⟩ := enc_eq n
    have HA := Lib.hid (fun W' h' => nd_open (HA0 W' h') hv)
    have HV := Lib.hid (show Value.iface 72 (.agg #[.string (st a), .string (y.extract 0 m), .iface va vx]) = enc (.asg a b.dropLast n) by rw [HD.out, ← hv]; rfl)
    clear HA0 hR hv HD
    show Calls _ _ _ _ (ndPost pb o W (some (.asg a b.dropLast n, r)))
    go_enter_defers Tryz.func22, Tryz.ntmps22
    go_wp2_with (first
      | (go_at_call 32; (with_reducible refine HE.out.mono ?_); rintro e w1 ⟨rfl, hP, hF⟩; have HP1 := Lib.hid hP; have HF1 := Lib.hid hF; obtain ⟨tb, off, cap, c0, -, -, hcap, hmax, hcell, -, -, -⟩ := hP.cells; obtain ⟨k0, k1⟩ := two_cells hcell; clear hP hF hcell; unfold maxLen at hmax; rw [List.length_cons, List.length_cons] at c0 hcap; rw [hy0] at k1)
      | (go_at_call 34; (with_reducible refine (HN.out _).mono ?_); rintro e w2' ⟨rfl, rfl⟩)
      | (go_at_call 35; (with_reducible refine (HG.out _).mono ?_); rintro e w2' ⟨rfl, rfl⟩)
      | (go_at_call 37; (with_reducible refine (HT1.out _ HP1.out).mono ?_); rintro e w2 ⟨rfl, hP, hF⟩; have HP2 := Lib.hid hP; have HF2 := Lib.hid (HF1.out.trans hF); clear hP hF)
      | (go_at_call 37; (with_reducible refine (HT2.out _ HP2.out).mono ?_); rintro e w3 ⟨rfl, hP, hF⟩; have HP3 := Lib.hid hP; have HF3 := Lib.hid (HF2.out.trans hF); clear hP hF hy0 c0 k0 k1))
    go_upto_region 6 with fail
    refine wp_region_pan [{ target := .fn (.func 33) #[], args := #[.pointer (some ⟨pb, 0, none⟩)] }] (fun _ _ => False) (fun _ _ _ h => h.elim) ?_
    refine wp_region_any (by kernel_rfl) (any_of_T (S := fun _ _ => True) _ _ _ _ ?_)
    change anyT _ _ _ _ _ _ _ _ w3.drew
    have aS : True := trivial
    refine anyT_take (i := 0) (v := .string (st a)) (fun _ => True) rfl (by kernel_rfl) (by kernel_rfl) (by kernel_rfl) (fun _ _ _ h => h) (fun _ _ _ _ hS => hS) (fun _ _ => Iff.rfl) (Clos.start _) (Or.inl ⟨by kernel_rfl, ?by0⟩) aS (fun ac0 aS0 => ?br0)
    case by0 => (intro W hSw; clear hSw; go_simp)
    try simp only [Act.put, List.setIfInBounds_toArray, List.set_cons_zero, List.set_cons_succ]
    refine anyT_take (i := 1) (v := .string y) (fun _ => True) rfl (by kernel_rfl) (by kernel_rfl) (by kernel_rfl) (fun _ _ _ h => h) (fun _ _ _ _ hS => hS) (fun _ _ => Iff.rfl) ac0 (Or.inl ⟨by kernel_rfl, ?by1⟩) aS0 (fun ac1 aS1 => ?br1)
    case by1 => (intro W hSw; clear hSw; go_simp)
    try simp only [Act.put, List.setIfInBounds_toArray, List.set_cons_zero, List.set_cons_succ]
    refine anyT_take (i := 2) (v := .string y) (fun _ => True) rfl (by kernel_rfl) (by kernel_rfl) (by kernel_rfl) (fun _ _ _ h => h) (fun _ _ _ _ hS => hS) (fun _ _ => Iff.rfl) ac1 (Or.inl ⟨by kernel_rfl, ?by2⟩) aS1 (fun ac2 aS2 => ?br2)
    case by2 => (intro W hSw; clear hSw; go_simp)
    try simp only [Act.put, List.setIfInBounds_toArray, List.set_cons_zero, List.set_cons_succ]
    refine anyT_take (i := 3) (v := .int .i64 ((m : Int) + 1)) (fun _ => True) rfl (by kernel_rfl) (by kernel_rfl) (by kernel_rfl) (fun _ _ _ h => h) (fun _ _ _ _ hS => hS) (fun _ _ => Iff.rfl) ac2 (Or.inl ⟨by kernel_rfl, ?by3⟩) aS2 (fun ac3 aS3 => ?br3)
    case by3 => (intro W hSw; clear hSw; go_simp)
    try simp only [Act.put, List.setIfInBounds_toArray, List.set_cons_zero, List.set_cons_succ]
    refine anyT_take (i := 4) (v := .int .i64 m) (fun _ => True) rfl (by kernel_rfl) (by kernel_rfl) (by kernel_rfl) (fun _ _ _ h => h) (fun _ _ _ _ hS => hS) (fun _ _ => Iff.rfl) ac3 (Or.inl ⟨by kernel_rfl, ?by4⟩) aS3 (fun ac4 aS4 => ?br4)
    case by4 => (intro W hSw; clear hSw; go_simp; exact IntWalk.i64_in _ (by omega))
    try simp only [Act.put, List.setIfInBounds_toArray, List.set_cons_zero, List.set_cons_succ]
    refine anyT_take (i := 5) (v := .string (y.extract 0 m)) (fun _ => True) rfl (by kernel_rfl) (by kernel_rfl) (by kernel_rfl) (fun _ _ _ h => h) (fun _ _ _ _ hS => hS) (fun _ _ => Iff.rfl) ac4 (Or.inl ⟨by kernel_rfl, ?by5⟩) aS4 (fun ac5 aS5 => ?br5)
    case by5 => (intro W hSw; clear hSw; go_simp; intro hlt; omega)
    try simp only [Act.put, List.setIfInBounds_toArray, List.set_cons_zero, List.set_cons_succ]
    refine anyT_take (i := 6) (v := .pointer (some ⟨pb, 0, none⟩)) (fun _ => True) rfl (by kernel_rfl) (by kernel_rfl) (by kernel_rfl) (fun _ _ _ h => h) (fun _ _ _ _ hS => hS) (fun _ _ => Iff.rfl) ac5 (Or.inl ⟨by kernel_rfl, ?by6⟩) aS5 (fun ac6 aS6 => ?br6)
    case by6 => (intro W hSw; clear hSw; go_simp)
    try simp only [Act.put, List.setIfInBounds_toArray, List.set_cons_zero, List.set_cons_succ]
    refine anyT_step (k := 7) (by kernel_rfl) rfl (fun K hK => ?bs7)
    case bs7 =>
      have HK := Lib.hid hK
      clear hK
      go_simp
      refine (HA.out w3.drew (HP3.out.fr (S := fun _ => False) (Fr.refl _ _).drew (fun _ _ => id))).mono ?_
      rintro e w4 ⟨rfl, hP, hF⟩
      have HP4 := Lib.hid hP
      have HF4 := Lib.hid ((HF3.out.drew).trans hF)
      clear hP hF
      refine HK.out _ _ trivial ?_
      clear HK
      try simp only [Act.put, List.setIfInBounds_toArray, List.set_cons_zero, List.set_cons_succ]
      refine anyT_step (k := 8) (by kernel_rfl) rfl (fun K hK => ?bs8)
      case bs8 =>
        have HK := Lib.hid hK
        clear hK
        go_simp
        refine HK.out _ _ trivial ?_
        clear HK
        try simp only [Act.put, List.setIfInBounds_toArray, List.set_cons_zero, List.set_cons_succ]
        refine anyT_step (k := 9) (by kernel_rfl) rfl (fun K hK => ?bs9)
        case bs9 =>
          have HK := Lib.hid hK
          clear hK
          go_simp
          refine HK.out _ _ trivial ?_
          clear HK
          try simp only [Act.put, List.setIfInBounds_toArray, List.set_cons_zero, List.set_cons_succ]
          refine anyT_step (k := 10) (by kernel_rfl) rfl (fun K hK => ?bs10)
          case bs10 =>
            have HK := Lib.hid hK
            clear hK
            go_simp
            refine HK.out _ _ trivial ?_
            clear HK
            try simp only [Act.put, List.setIfInBounds_toArray, List.set_cons_zero, List.set_cons_succ]
            refine anyT_done (by kernel_rfl) ?_
            refine panQ.normal ?_
            go_wp2
            exact door_ret HV.out HP4.out HF4.out rfl rfl
theorem asg_any (pb f : Nat) (hA : Does pb f .asg 22) (hC : Does pb f .cho 36) : Does pb (f + 1) .asg 22 := by
  intro o ts W h hf
  simp only [enough] at hf
  by_cases ho : 24 < o
  · rw [pP_deep _ _ _ _ (.inl rfl) ho]
    exact asg_deep pb f o ts W h ho
  have ho' : o ≤ 24 := by omega
  have HC := fun W' (h' : PT W' pb (o + 1) ts) => hC (o + 1) ts W' h' (by simp only [enough]; omega)
  by_cases h2 : ts.length < 2
  · rw [pP_asg1 _ _ _ h2, if_neg ho]
    exact asg_short pb f o ts W h ho' h2 _ HC
  · match ts, h2, h, hf, HC with
    | [], h2, _, _, _ => exact absurd (by simp) h2
    | [a], h2, _, _, _ => exact absurd (by simp) h2
    | a :: b :: q, _, h, hf, HC =>
      rw [pP_asg2, if_neg ho]
      cases hn : (isN a && isAsg b)
      · rw [if_neg (by decide)]
        exact asg_not pb f o a b q W h ho' hn _ HC
      · rw [if_pos rfl]
        rw [Bool.and_eq_true] at hn
        simp only [List.length_cons] at hf
        exact asg_yes pb f o a b q W h ho' hn.1 hn.2 hA (by simp only [enough]; omega)
/-- all that reads nodes. -/
theorem reads_all (pb : Nat) : ∀ f, Does pb f .asg 22 ∧ Does pb f .cho 36 ∧ Does pb f (.lev 0) 50 ∧ Does pb f (.lev 1) 65 ∧ Does pb f (.lev 2) 74 ∧ Does pb f (.lev 3) 82 ∧ Does pb f (.lev 4) 84 ∧ Does pb f (.lev 5) 86 ∧
    Does pb f (.lev 6) 87 ∧ Does pb f (.lev 7) 88 ∧ Does pb f (.lev 8) 89 ∧ Does pb f (.lev 9) 90 ∧ Does pb f .un 91 := by
  intro f
  induction f using Nat.strongRecOn with
  | _ f ih =>
    cases f with
    | zero =>
      refine ⟨?_, ?_, ?_, ?_, ?_, ?_, ?_, ?_, ?_, ?_, ?_, ?_, ?_⟩ <;> (intro o ts W h hf; simp only [enough] at hf; omega)
    | succ q =>
      obtain ⟨a1, a2, a3, a4, a5, a6, a7, a8, a9, a10, a11, a12, a13⟩ := ih q (Nat.lt_succ_self q)
      exact ⟨asg_any pb q a1 a2, cho_any pb q a3 a1 a2, lev0_any pb q (fun p hp => (ih p (by omega)).2.2.2.1), lev1_any pb q (fun p hp => (ih p (by omega)).2.2.2.2.1), lev2_any pb q (fun p hp => (ih p (by omega)).2.2.2.2.2.1),
        lev3_any pb q (fun p hp => (ih p (by omega)).2.2.2.2.2.2.1), lev4_any pb q (fun p hp => (ih p (by omega)).2.2.2.2.2.2.2.1), lev5_any pb q (fun p hp => (ih p (by omega)).2.2.2.2.2.2.2.2.1), lev6_any pb q (fun p hp => (ih p (by omega)).2.2.2.2.2.2.2.2.2.1),
        lev7_any pb q (fun p hp => (ih p (by omega)).2.2.2.2.2.2.2.2.2.2.1), lev8_any pb q (fun p hp => (ih p (by omega)).2.2.2.2.2.2.2.2.2.2.2.1), lev9_any pb q (fun p hp => (ih p (by omega)).2.2.2.2.2.2.2.2.2.2.2.2), un_any pb q a1 a13⟩
end Go.Proofs.YtbmnngliapmgfaaGreatDoor
