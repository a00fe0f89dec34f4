/- The document's Becomes and Exit. -/
import Derived.Test.YtgbmedbkonloiaaFN
namespace Go.Proofs.Ytgbmedbkonloiaa
open Go.RowKit
set_option linter.unusedVariables false
set_option linter.unusedSimpArgs false
section
variable {W W' : World} {B D : Nat} {v u : Value} {L : List Pr} {last : Int} {us : List Int} {R : Nat → Prop} {s : TB}
theorem set_same {L : List Pr} {k : Nat} {p p' : Pr} (h : L[k]? = some p) : (L.set k p')[k]? = some p' := by
  rw [List.getElem?_set_self (List.getElem?_eq_some_iff.1 h).1]
set_option maxRecDepth 100000 in
set_option maxHeartbeats 2000000 in
theorem rbecomes_any (a x : Int) (h : DAt W B D R s) (hs : Sd s) (hl : s.L.length ≤ 1000000) :
    Calls Try.prog 24 #[.pointer (some ⟨D, 0, none⟩), .int .i64 a, .int .i64 x] W fun r w' => r = .returned (.int .i64 (becE s a x)) ∧ DDoes W B D R (becT s a x) w' := by
  have HT := Lib.hid h
  obtain ⟨v, u, h1, hR⟩ := h
  have hA := Lib.hid (rlive_any a h1 hl)
  cases hlv : liveP s.L a with
  | none =>
    rw [(bec_none hlv).1, (bec_none hlv).2]
    rw [lpos_none hlv] at hA
    clear h1 hlv
    go_enter Try.func24, Try.ntmps24
    go_wp2_with (go_at_call 35; refine hA.out.mono ?_; rintro e w' ⟨rfl, rfl⟩)
    go_ret
    exact ⟨rfl, HT.out.does⟩
  | some p =>
    obtain ⟨k, hk1, hk, hx, hlt⟩ := pos_live hlv
    rw [hk1] at hA
    have i1 : (0 : Int) ≤ (k : Int) := by omega
    have i2 : (k : Int) < (s.L.length : Int) := by omega
    have i3 : ¬ (k : Int) < 0 := by omega
    by_cases hu : x < 0 ∨ 65535 < x
    · rw [(bec_bad hlv hu).1, (bec_bad hlv hu).2]
      clear h1 hlv hk hk1
      rcases hu with hu | hu
      · go_enter Try.func24, Try.ntmps24
        go_wp2_with (go_at_call 35; refine hA.out.mono ?_; rintro e w' ⟨rfl, rfl⟩)
        go_ret
        exact ⟨rfl, HT.out.does⟩
      · have hu0 : ¬ x < 0 := by omega
        go_enter Try.func24, Try.ntmps24
        go_wp2_with (go_at_call 35; refine hA.out.mono ?_; rintro e w' ⟨rfl, rfl⟩)
        go_ret
        exact ⟨rfl, HT.out.does⟩
    · have hu0 : ¬ x < 0 := by omega
      have hu1 : ¬ 65535 < x := by omega
      obtain ⟨g, cap, rfl, hg, hc⟩ := h1.form (by omega)
      obtain ⟨c0, -, -⟩ := h1.cell
      obtain ⟨-, -, e2, -, -, -, e6⟩ := h1.cellP hk
      cases hh : hold x p
      · rw [(bec_room hlv hu hh).1, (bec_room hlv hu hh).2]
        clear hu
        have HM := Lib.hid (rroom_any x h1 hs.u8 hl)
        have fin : ∀ (hq : (p.user == x) = false ∨ ((p.user == x) = true ∧ p.reserve = true)), Calls Try.prog 24 #[.pointer (some ⟨D, 0, none⟩), .int .i64 a, .int .i64 x] W fun e w' => e = .returned (.int .i64 (roomP s x)) ∧ DDoes W B D R (if roomP s x = 0 then ⟨modP a (fun q => { q with user := x, reserve := false }) s.L, s.last, learnU s.users x⟩ else s) w' := by
          intro hq
          by_cases hr : roomP s x = 0
          · rw [if_pos hr]
            rw [hr] at HM ⊢
            have HLE := Lib.hid (rlearn_any x h1 hs.u8)
            have hM := modP_set2 hs.asc hk hx (fun q => { q with user := x, reserve := false })
            have HMM := Lib.hid hM
            have HKK := Lib.hid hk
            clear h1 hlv hs hk hk1 hr hM
            rcases hq with hq | ⟨hq, hq2⟩
            all_goals
              (try rw [hq2] at e6)
              go_enter Try.func24, Try.ntmps24
              go_wp2_with (first
                | (go_at_call 35; refine hA.out.mono ?_; rintro e w' ⟨rfl, rfl⟩)
                | (go_at_call 36; refine HM.out.mono ?_; rintro e w1 ⟨rfl, rfl⟩)
                | (go_at_call 37; refine HLE.out.mono ?_; rintro e w1 ⟨rfl, u', hP, hS⟩
                   have hHS := Lib.hid hS
                   have HP2 := Lib.hid ((hP.set2 rfl HKK.out (p' := { p with user := x }) 2 (by decide) (.int .i64 x) rfl).set2 (by rw [List.length_set]) (set_same HKK.out) (p' := { p with user := x, reserve := false }) 6 (by decide) (.bool false) rfl)
                   have hgD : g ≠ D := hP.nD g rfl
                   obtain ⟨d0, -, -⟩ := hP.cell
                   obtain ⟨-, -, j2, -, -, -, j6⟩ := hP.cellP HKK.out
                   have f2 := hP.frozenP (k * 7 + 2)
                   have f6 := hP.frozenP (k * 7 + 6)
                   clear hP hS))
              go_ret
              rw [HMM.out]
              have hPP := HP2.out
              rw [List.set_set] at hPP
              refine ⟨rfl, _, ⟨_, _, hPP, rfl⟩, ?_⟩
              rw [hR]
              exact hHS.out.trans ⟨((Fr.one _ _ _ _).trans (Fr.one _ _ _ _)).mono fun k _ hk => .inr (.inl (by rw [hk]; rfl)), fun k hk => .inl hk⟩
          · rw [if_neg hr]
            have i4 : (roomP s x == 0) = false := by simpa using hr
            generalize roomP s x = z at *
            clear h1 hlv hs hk hk1 hr hh
            rcases hq with hq | ⟨hq, hq2⟩
            all_goals
              (try rw [hq2] at e6)
              go_enter Try.func24, Try.ntmps24
              go_wp2_with (first
                | (go_at_call 35; refine hA.out.mono ?_; rintro e w' ⟨rfl, rfl⟩)
                | (go_at_call 36; refine HM.out.mono ?_; rintro e w1 ⟨rfl, rfl⟩))
              go_ret
              exact ⟨rfl, HT.out.does⟩
        refine fin ?_
        unfold hold at hh
        cases h3 : (p.user == x)
        · exact .inl rfl
        · rw [h3] at hh
          exact .inr ⟨rfl, by simpa using hh⟩
      · rw [(bec_own hlv hu hh).1, (bec_own hlv hu hh).2]
        clear hu
        unfold hold at hh
        simp only [Bool.and_eq_true, Bool.not_eq_true'] at hh
        obtain ⟨q1, q2⟩ := hh
        rw [q2] at e6
        clear h1 hlv hs hk hk1
        go_enter Try.func24, Try.ntmps24
        go_wp2_with (go_at_call 35; refine hA.out.mono ?_; rintro e w' ⟨rfl, rfl⟩)
        go_ret
        exact ⟨rfl, HT.out.does⟩
/-- a row of which the first k are other ones. -/
def mixK (f : Pr → Pr) (k : Nat) (L : List Pr) : List Pr := (L.take k).map f ++ L.drop k
theorem mixK_len (f : Pr → Pr) (k : Nat) (L : List Pr) (hk : k ≤ L.length) : (mixK f k L).length = L.length := by
  unfold mixK
  rw [List.length_append, List.length_map, List.length_take, List.length_drop]; omega
theorem mixK_get {f : Pr → Pr} {k : Nat} {L : List Pr} {p : Pr} (h : L[k]? = some p) : (mixK f k L)[k]? = some p := by
  have hk : k < L.length := (List.getElem?_eq_some_iff.1 h).1
  unfold mixK
  have e : ((L.take k).map f).length = k := by rw [List.length_map, List.length_take]; omega
  rw [List.getElem?_append_right (by omega), e, Nat.sub_self, List.getElem?_drop, Nat.add_zero, h]
theorem mixK_step {f : Pr → Pr} {k : Nat} {L : List Pr} {p : Pr} (h : L[k]? = some p) : (mixK f k L).set k (f p) = mixK f (k + 1) L := by
  have hk : k < L.length := (List.getElem?_eq_some_iff.1 h).1
  have hp := (List.getElem?_eq_some_iff.1 h).2
  unfold mixK
  have e : ((L.take k).map f).length = k := by rw [List.length_map, List.length_take]; omega
  rw [List.set_append, if_neg (by omega), e, Nat.sub_self, List.drop_eq_getElem_cons hk, List.set_cons_zero, List.take_add_one, h, List.map_append]
  simp
theorem mixK_same {f : Pr → Pr} {k : Nat} {L : List Pr} {p : Pr} (h : L[k]? = some p) (hf : f p = p) : mixK f (k + 1) L = mixK f k L := by
  rw [← mixK_step h, hf]
  have hg := mixK_get (f := f) h
  have hk := (List.getElem?_eq_some_iff.1 hg).1
  have hp := (List.getElem?_eq_some_iff.1 hg).2
  exact List.ext_getElem? fun i => by
    rw [List.getElem?_set]
    by_cases e : k = i
    · subst e; rw [if_pos rfl, if_pos hk, hg]
    · rw [if_neg e]
def reRel (W : World) (B D g cap n : Nat) (u : Value) (L : List Pr) (last : Int) (us : List Int) (a : Int) (iv : Value) (wr : World) : Prop :=
  ∃ k : Nat, iv = .int .i64 k ∧ k ≤ n ∧ DR wr B D (.slice (some ⟨g, 0, none⟩) n cap) u (mixK (orphan a) k L) last us ∧ Fr (· = g) W wr
set_option maxRecDepth 100000 in
set_option maxHeartbeats 2000000 in
theorem rexit_any (a st : Int) (h : DAt W B D R s) (hs : Sd s) (hl : s.L.length ≤ 1000000) :
    Calls Try.prog 26 #[.pointer (some ⟨D, 0, none⟩), .int .i64 a, .int .i64 st] W fun r w' => r = .returned (.int .i64 (exitE s a)) ∧ DDoes W B D R (exitT s a st) w' := by
  have HT := Lib.hid h
  obtain ⟨v, u, h1, hR⟩ := h
  have hA := Lib.hid (rlive_any a h1 hl)
  unfold exitE exitT
  cases hlv : liveP s.L a with
  | none =>
    simp only
    rw [lpos_none hlv] at hA
    clear h1 hlv
    go_enter Try.func26, Try.ntmps26
    go_wp2_with (go_at_call 35; refine hA.out.mono ?_; rintro e w' ⟨rfl, rfl⟩)
    go_ret
    exact ⟨rfl, HT.out.does⟩
  | some p =>
    simp only
    obtain ⟨k, hk1, hk, hx, hlt⟩ := pos_live hlv
    rw [hk1] at hA
    have i1 : (0 : Int) ≤ (k : Int) := by omega
    have i2 : (k : Int) < (s.L.length : Int) := by omega
    have i3 : ¬ (k : Int) < 0 := by omega
    by_cases h1a : a = 1
    · rw [if_pos h1a, if_pos h1a]
      subst h1a
      clear h1 hlv hk hk1
      go_enter Try.func26, Try.ntmps26
      go_wp2_with (go_at_call 35; refine hA.out.mono ?_; rintro e w' ⟨rfl, rfl⟩)
      go_ret
      exact ⟨rfl, HT.out.does⟩
    · rw [if_neg h1a, if_neg h1a]
      have i4 : (a == 1) = false := by simpa using h1a
      obtain ⟨g, cap, rfl, hg, hc⟩ := h1.form (by omega)
      obtain ⟨c0, -, -⟩ := h1.cell
      obtain ⟨-, -, -, -, e4, e5, -⟩ := h1.cellP hk
      have f4 := h1.frozenP (k * 7 + 4)
      have f5 := h1.frozenP (k * 7 + 5)
      have hgD : g ≠ D := h1.nD g rfl
      have hM := modP_set2 hs.asc hk hx (fun q => { q with dead := true, status := st })
      have h3 := (h1.set2 rfl hk (p' := { p with dead := true }) 5 (by decide) (.bool true) rfl).set2 (by rw [List.length_set]) (set_same hk) (p' := { p with dead := true, status := st }) 4 (by decide) (.int .i64 st) rfl
      rw [List.set_set] at h3
      rw [hM]
      have hF3 : Fr (· = g) W ((W.setCell ⟨g, k * 7 + 5, none⟩ (.bool true)).setCell ⟨g, k * 7 + 4, none⟩ (.int .i64 st)) := (Fr.one _ _ _ _).trans (Fr.one _ _ _ _)
      have hln : (s.L.set k { p with dead := true, status := st }).length = s.L.length := List.length_set
      generalize hW3 : (W.setCell ⟨g, k * 7 + 5, none⟩ (.bool true)).setCell ⟨g, k * 7 + 4, none⟩ (.int .i64 st) = W3 at *
      generalize hL1 : s.L.set k { p with dead := true, status := st } = L1 at *
      have HP := Lib.hid h3
      have HF := Lib.hid hF3
      have hn := hln
      clear h1 hlv hk hk1 hs hM h3 hF3 hL1 hln
      generalize s.L.length = n at *
      go_enter Try.func26, Try.ntmps26
      go_wp2_with (go_at_call 35; refine hA.out.mono ?_; rintro e w' ⟨rfl, rfl⟩)
      go_loopw [8] (fun iv wr => reRel W3 B D g cap n u L1 s.last s.users a iv wr) (fun iv _ => n - (Lib.intOf iv).toNat)
      case atStart => exact ⟨0, rfl, Nat.zero_le _, HP.out, Fr.refl _ _⟩
      case round =>
        obtain ⟨j, rfl, hj, hD, hFr⟩ := hrel
        have HFr := Lib.hid hFr
        have HD := Lib.hid hD
        obtain ⟨c0, -, -⟩ := hD.cell
        clear hFr hD
        by_cases hlt : j < n
        · have hp : L1[j]? = some (L1[j]'(by omega)) := List.getElem?_eq_getElem _
          generalize L1[j]'(by omega) = q at hp
          have hm := mixK_get (f := orphan a) hp
          have hlm : (mixK (orphan a) j L1).length = n := by rw [mixK_len _ _ _ (by omega), hn]
          have HDc := HD.out
          rw [← hlm] at HDc
          obtain ⟨-, k1, -⟩ := HDc.cellP hm
          have f1 := HDc.frozenP (j * 7 + 1)
          have m1 : (0 : Int) ≤ (j : Int) := by omega
          have m2 : (j : Int) < (n : Int) := by omega
          by_cases hpa : q.parent = a
          · have HP2 := HD.out.set2 hlm hm (p' := orphan a q) 1 (by decide) (.int .i64 1) (by unfold orphan; rw [if_pos hpa]; rfl)
            rw [mixK_step hp] at HP2
            have HP2 := Lib.hid HP2
            have m3 : (q.parent == a) = true := by simpa using hpa
            clear hm hp HDc hlm
            go_wp2
            go_roundw
            case rel => exact ⟨j + 1, by go_num, by omega, HP2.out, HFr.out.trans (Fr.one _ _ _ _)⟩
            case measure => simp [Lib.intOf]; omega
          · have hsame := mixK_same hp (show orphan a q = q by unfold orphan; rw [if_neg hpa])
            have m3 : (q.parent == a) = false := by simpa using hpa
            have HD2 := HD.out
            rw [← hsame] at HD2
            have HD2 := Lib.hid HD2
            clear hm hp HDc hlm hsame
            go_wp2
            go_roundw
            case rel => exact ⟨j + 1, by go_num, by omega, HD2.out, HFr.out⟩
            case measure => simp [Lib.intOf]; omega
        · have hjn : j = n := by omega
          have HD2 := HD.out
          rw [hjn, ← hn, show mixK (orphan a) L1.length L1 = L1.map (orphan a) by unfold mixK; rw [List.take_length, List.drop_length, List.append_nil]] at HD2
          have HD2 := Lib.hid HD2
          have m2 : ¬ (j : Int) < (n : Int) := by omega
          clear hjn
          go_wp2
          go_ret
          refine ⟨rfl, _, ⟨_, _, HD2.out, rfl⟩, ?_⟩
          rw [hn]
          exact ⟨(HF.out.trans HFr.out).mono fun k _ hk => .inr (.inl (by rw [hk]; rfl)), fun k hk => .inl hk⟩
end
end Go.Proofs.Ytgbmedbkonloiaa
