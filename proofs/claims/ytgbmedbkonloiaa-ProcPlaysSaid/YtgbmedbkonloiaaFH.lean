/- Contracts of the program's Becomes and Exit. -/
import Derived.Test.YtgbmedbkonloiaaFG
namespace Go.Proofs.Ytgbmedbkonloiaa
open Go.RowKit Go.Maps
set_option linter.unusedVariables false
set_option linter.unusedSimpArgs false
variable {W W' : World} {B T M : Nat} {nb : Int → Nat} {v : Value} {L : List Pr} {last : Int} {us : List Int} {S : Nat → Prop} {s : TB}
theorem modP_modP (L : List Pr) (a : Int) (f g : Pr → Pr) (hf : ∀ p, (f p).pid = p.pid) : modP a g (modP a f L) = modP a (fun p => g (f p)) L := by
  unfold modP
  rw [List.map_map]
  refine List.map_congr_left fun p _ => ?_
  show (if (if p.pid = a then f p else p).pid = a then g (if p.pid = a then f p else p) else (if p.pid = a then f p else p)) = _
  by_cases e : p.pid = a
  · rw [if_pos e, hf, if_pos e, if_pos e]
  · rw [if_neg e, if_neg e, if_neg e]
theorem modP_same {L : List Pr} {a : Int} {p : Pr} (f : Pr → Pr) (hf : ∀ p, (f p).pid = p.pid) (h : atP L a = some p) : atP (modP a f L) a = some (f p) := by
  rw [modP_at L a f hf, h]; simp
theorem modP_fix {L : List Pr} {x : Int} {q : Pr} {g : Pr → Pr} (ha : L.Pairwise fun p q => p.pid < q.pid) (h : atP L x = some q) (hg : g q = q) : modP x g L = L := by
  obtain ⟨l, m, rfl, e, h1, h2⟩ := at_split ha h
  rw [modP_split e h1 h2, hg]
theorem bec_none {a u : Int} (h : liveP s.L a = none) : becE s a u = 3 ∧ becT s a u = s := by
  unfold becT becE
  rw [h]
  exact ⟨rfl, rfl⟩
theorem bec_bad {a u : Int} {p : Pr} (h : liveP s.L a = some p) (hu : u < 0 ∨ 65535 < u) : becE s a u = 1 ∧ becT s a u = s := by
  have h1 : becE s a u = 1 := by unfold becE; rw [h]; exact if_pos hu
  refine ⟨h1, ?_⟩
  unfold becT
  rw [h, h1]
  exact if_neg (by rintro ⟨_, h⟩; cases h)
theorem bec_own {a u : Int} {p : Pr} (h : liveP s.L a = some p) (hu : ¬ (u < 0 ∨ 65535 < u)) (hh : hold u p = true) : becE s a u = 0 ∧ becT s a u = s := by
  have h1 : becE s a u = 0 := by unfold becE; rw [h]; simp only; rw [if_neg hu, if_pos hh]
  refine ⟨h1, ?_⟩
  unfold becT
  rw [h]
  exact if_neg (by rintro ⟨h, _⟩; rw [hh] at h; cases h)
theorem bec_room {a u : Int} {p : Pr} (h : liveP s.L a = some p) (hu : ¬ (u < 0 ∨ 65535 < u)) (hh : hold u p = false) : becE s a u = roomP s u ∧ becT s a u = if roomP s u = 0 then ⟨modP a (fun q => { q with user := u, reserve := false }) s.L, s.last, learnU s.users u⟩ else s := by
  have h1 : becE s a u = roomP s u := by unfold becE; rw [h]; simp only; rw [if_neg hu, if_neg (by rw [hh]; decide)]
  refine ⟨h1, ?_⟩
  unfold becT
  rw [h, h1]
  simp only [hh, true_and]
set_option maxRecDepth 100000 in
set_option maxHeartbeats 2000000 in
theorem becomes_any (a u : Int) (ha : I64 a) (h : TAt W B T S s) (hs : Sd s) (hb : s.last ≤ 1000000) :
    Calls Try.prog 20 #[.pointer (some ⟨T, 0, none⟩), .int .i64 a, .int .i64 u] W fun e w' => e = .returned (.int .i64 (becE s a u)) ∧ Does W B T S (becT s a u) w' := by
  have HT := Lib.hid h
  obtain ⟨M, nb, v, h1, hS⟩ := h
  have hL := live_any a ha h1
  cases hl : liveP s.L a with
  | none =>
    rw [liveV_none hl] at hL
    rw [(bec_none hl).1, (bec_none hl).2]
    clear h1 hl hs
    go_enter Try.func20, Try.ntmps20
    go_wp2_with (go_at_call 31; refine hL.mono ?_; rintro e w' ⟨rfl, rfl⟩)
    go_ret
    exact ⟨rfl, HT.out.does⟩
  | some p =>
    rw [liveV_some hl] at hL
    have hp := (live_some hl).1
    have HL := Lib.hid hL
    clear hL
    by_cases hu : u < 0 ∨ 65535 < u
    · rw [(bec_bad hl hu).1, (bec_bad hl hu).2]
      clear h1 hl hs hp
      rcases hu with hu | hu
      · go_enter Try.func20, Try.ntmps20
        go_wp2_with (go_at_call 31; refine HL.out.mono ?_; rintro e w' ⟨rfl, rfl⟩)
        go_ret
        exact ⟨rfl, HT.out.does⟩
      · have hu0 : ¬ u < 0 := by omega
        go_enter Try.func20, Try.ntmps20
        go_wp2_with (go_at_call 31; refine HL.out.mono ?_; rintro e w' ⟨rfl, rfl⟩)
        go_ret
        exact ⟨rfl, HT.out.does⟩
    · have hu0 : ¬ u < 0 := by omega
      have hu1 : ¬ 65535 < u := by omega
      obtain ⟨-, -, k2, -, -, -, k6⟩ := h1.cells hp
      cases hh : hold u p
      · rw [(bec_room hl hu hh).1, (bec_room hl hu hh).2]
        clear hu
        have HM := Lib.hid (maycount_any u ⟨M, nb, v, h1, hS⟩ hs hb)
        have fin : ∀ (hq : (p.user == u) = false ∨ ((p.user == u) = true ∧ p.reserve = true)), Calls Try.prog 20 #[.pointer (some ⟨T, 0, none⟩), .int .i64 a, .int .i64 u] W fun e w' => e = .returned (.int .i64 (roomP s u)) ∧ Does W B T S (if roomP s u = 0 then ⟨modP a (fun q => { q with user := u, reserve := false }) s.L, s.last, learnU s.users u⟩ else s) w' := by
          intro hq
          by_cases hr : roomP s u = 0
          · rw [if_pos hr]
            rw [hr] at HM ⊢
            have FIN := Lib.hid fun W' (hF : Fr (fun _ => False) W W') => (show _ ∧ _ ∧ _ ∧ _ from
              (let hP := h1.fr hF (fun _ _ => id)
               let h2 := hP.set1 hp 2 (.int .i64 u) (fun q => { q with user := u }) (fun _ => rfl) rfl
               let hp2 := modP_same (fun q => { q with user := u }) (fun _ => rfl) hp
               let h3 := h2.set1 hp2 6 (.bool false) (fun q => { q with reserve := false }) (fun _ => rfl) rfl
               let hp3 := modP_same (fun q : Pr => { q with reserve := false }) (fun _ => rfl) hp2
               ⟨hP.frozenN hp 2, h2.frozenN hp2 6, know_any h3 hp3 hs.u8, ((hF.mono (S' := Bp T M nb v s.L) fun _ _ h => h.elim).setCell (p := ⟨nb a, 2, none⟩) (.inl (.inr (.inr (.inl ⟨a, p, hp, rfl⟩)))) (.int .i64 u)).setCell (p := ⟨nb a, 6, none⟩) (.inl (.inr (.inr (.inl ⟨a, p, hp, rfl⟩)))) (.bool false)⟩))
            have hmm : modP a (fun q => { q with reserve := false }) (modP a (fun q => { q with user := u }) s.L) = modP a (fun q => { q with user := u, reserve := false }) s.L := modP_modP s.L a (fun q => { q with user := u }) (fun q => { q with reserve := false }) (fun _ => rfl)
            rw [hmm] at FIN
            clear hmm
            have hst : ∀ k, Bp T M nb v (modP a (fun q => { q with user := u, reserve := false }) s.L) k → Bp T M nb v s.L k := fun k hk => (Bp.mod (f := fun q => { q with user := u, reserve := false }) (fun _ => rfl)).1 hk
            have HST := Lib.hid hst
            have HC : ∀ W', Fr (fun _ => False) W W' → W'.cell? ⟨nb a, 2, none⟩ = some (.int .i64 p.user) ∧ W'.cell? ⟨nb a, 6, none⟩ = some (.bool p.reserve) := fun W' hF => ⟨hF.cell k2 id, hF.cell k6 id⟩
            have HC := Lib.hid HC
            have hnlt := heap_lt (h1.node a p hp)
            unfold knowU at FIN
            simp only [Bool.false_eq_true, if_false] at FIN
            clear h1 hl hs hp hst hr
            generalize hb : nb a = b at *
            clear hb
            rcases hq with hq | ⟨hq, hq2⟩
            · go_enter Try.func20, Try.ntmps20
              go_wp2_with (first
                | (go_at_call 31; refine HL.out.mono ?_; rintro e w' ⟨rfl, rfl⟩)
                | (go_at_call 33; refine HM.out.mono ?_; rintro e w1 ⟨rfl, hF⟩; obtain ⟨j2, j6⟩ := HC.out w1 hF; obtain ⟨f2, f6, hk, hfr⟩ := FIN.out w1 hF)
                | (go_at_call 34; refine hk.mono ?_; rintro e w2 ⟨rfl, v', hP, hS2⟩))
              go_ret
              refine ⟨rfl, _, ⟨M, nb, v', hP, rfl⟩, ?_⟩
              rw [hS]
              exact Step.trans ⟨hfr, fun k hk => .inl (HST.out k hk)⟩ hS2
            · rw [hq2] at k6 HC
              go_enter Try.func20, Try.ntmps20
              go_wp2_with (first
                | (go_at_call 31; refine HL.out.mono ?_; rintro e w' ⟨rfl, rfl⟩)
                | (go_at_call 33; refine HM.out.mono ?_; rintro e w1 ⟨rfl, hF⟩; obtain ⟨j2, j6⟩ := HC.out w1 hF; obtain ⟨f2, f6, hk, hfr⟩ := FIN.out w1 hF)
                | (go_at_call 34; refine hk.mono ?_; rintro e w2 ⟨rfl, v', hP, hS2⟩))
              go_ret
              refine ⟨rfl, _, ⟨M, nb, v', hP, rfl⟩, ?_⟩
              rw [hS]
              exact Step.trans ⟨hfr, fun k hk => .inl (HST.out k hk)⟩ hS2
          · rw [if_neg hr]
            have i1 : (roomP s u == 0) = false := by simpa using hr
            generalize roomP s u = z at *
            clear h1 hl hs hp hr hh
            generalize nb a = b at *
            rcases hq with hq | ⟨hq, hq2⟩
            · go_enter Try.func20, Try.ntmps20
              go_wp2_with (first
                | (go_at_call 31; refine HL.out.mono ?_; rintro e w' ⟨rfl, rfl⟩)
                | (go_at_call 33; refine HM.out.mono ?_; rintro e w1 ⟨rfl, hF⟩))
              go_ret
              exact ⟨rfl, HT.out.does_fr hF⟩
            · rw [hq2] at k6
              go_enter Try.func20, Try.ntmps20
              go_wp2_with (first
                | (go_at_call 31; refine HL.out.mono ?_; rintro e w' ⟨rfl, rfl⟩)
                | (go_at_call 33; refine HM.out.mono ?_; rintro e w1 ⟨rfl, hF⟩))
              go_ret
              exact ⟨rfl, HT.out.does_fr hF⟩
        refine fin ?_
        unfold hold at hh
        cases h3 : (p.user == u)
        · exact .inl rfl
        · rw [h3] at hh
          exact .inr ⟨rfl, by simpa using hh⟩
      · rw [(bec_own hl hu hh).1, (bec_own hl hu hh).2]
        clear hu
        unfold hold at hh
        simp only [Bool.and_eq_true, Bool.not_eq_true'] at hh
        obtain ⟨q1, q2⟩ := hh
        rw [q2] at k6
        clear h1 hl hs hp
        generalize nb a = b at *
        go_enter Try.func20, Try.ntmps20
        go_wp2_with (go_at_call 31; refine HL.out.mono ?_; rintro e w' ⟨rfl, rfl⟩)
        go_ret
        exact ⟨rfl, HT.out.does⟩
end Go.Proofs.Ytgbmedbkonloiaa
