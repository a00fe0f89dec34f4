/- More small calls of the program's terminal. -/
import Derived.Test.YtojbgokbobkbdaaED
namespace Go.Proofs.Ytojbgokbobkbdaa
open Go.RowKit
set_option linter.unusedVariables false
set_option linter.unusedSimpArgs false
variable {W W' : World} {B T : Nat} {v0 v2 p v5 : Value} {q : Int} {e : Bool} {L : List Bs} {line sh : Bs} {S : Nat → Prop} {s : TS}
/-- what a step does. -/
def Does (W : World) (B T : Nat) (S : Nat → Prop) (s : TS) (w' : World) : Prop := ∃ S', TAt w' B T S' s ∧ Step S S' W w'
theorem TAt.does (h : TAt W B T S s) : Does W B T S s W := ⟨S, h, Step.refl _ _⟩
theorem Does.then {W1 W2 : World} {S1 : Nat → Prop} {s2 : TS} (k : Step S S1 W W1) (h : Does W1 B T S1 s2 W2) : Does W B T S s2 W2 := by
  obtain ⟨S', h1, h2⟩ := h
  exact ⟨S', h1, k.trans h2⟩
theorem pnew_any (w : World) :
    Calls Try.prog 10 #[] w fun r w' => r = .returned (.pointer (some ⟨w.heap.size, 0, none⟩)) ∧ (∃ S, TAt w' w.heap.size w.heap.size S new0) ∧ Fr (fun _ => False) w w' := by
  go_enter Try.func10, Try.ntmps10
  go_wp2
  go_ret
  refine ⟨rfl, ⟨_, .slice none 0 0, .slice none 0 0, .slice none 0 0, .pointer none, ⟨heap_alloc_new w _, .inl rfl, own_none _ _ _, own_none _ _ _, World.ownsRowF_nil _ _ _ _, ?_, Nat.le_refl _, fun _ => rfl⟩, rfl⟩, (Fr.refl _ _).alloc _⟩
  intro k hk
  cases hk
theorem discard_any (h : TAt W B T S s) :
    Calls Try.prog 30 #[.pointer (some ⟨T, 0, none⟩)] W fun r w' => r = .returned (.tuple #[]) ∧ Does W B T S ⟨[], [], s.echo, s.shown⟩ w' := by
  obtain ⟨v0, v2, v5, p, h1, hS⟩ := h
  obtain ⟨c0, c1, c2, -, -, -⟩ := h1.cell
  have f0 := h1.frozen 0
  have f1 := h1.frozen 1
  have f2 := h1.frozen 2
  have H := Lib.hid h1
  clear h1
  go_enter Try.func30, Try.ntmps30
  go_wp2
  refine bodyPost_end (results_none rfl _ _ _) rfl ?_
  have k0 := H.out.s0 (v0' := .slice none 0 0) (L' := []) (own_none _ _ _)
  have k1 := k0.sq 0
  have k2 := k1.s2 (v2' := .slice none 0 0) (line' := []) (own_none _ _ _) (fun k hk => by cases hk)
  refine ⟨rfl, _, ⟨_, _, _, _, k2, rfl⟩, (((Fr.one _ _ _ _).trans (Fr.one _ _ _ _)).trans (Fr.one _ _ _ _)).mono (fun k _ hk => by rw [hS]; exact .inl hk), fun k hk => ?_⟩
  rcases hk with hk | hk | hk | hk
  · exact .inl (by rw [hS]; exact .inl hk)
  · cases hk
  · cases hk
  · exact .inl (by rw [hS]; exact .inr (.inr (.inr hk)))
theorem clear_any (h : TAt W B T S s) :
    Calls Try.prog 26 #[.pointer (some ⟨T, 0, none⟩)] W fun r w' => r = .returned (.tuple #[]) ∧ Does W B T S (clearP s) w' := by
  have H := Lib.hid (discard_any h)
  clear h
  go_enter Try.func26, Try.ntmps26
  go_wp2_with fail
  refine H.out.mono ?_
  rintro r w1 ⟨rfl, S1, ⟨v0, v2, v5, p, h1, hS⟩, st⟩
  obtain ⟨-, -, -, c3, -, -⟩ := h1.cell
  have f3 := h1.frozen 3
  have H1 := Lib.hid h1
  have ST := Lib.hid st
  clear h1 st H
  go_wp2
  refine bodyPost_end (results_none rfl _ _ _) rfl ?_
  exact ⟨rfl, S1, ⟨v0, v2, v5, p, H1.out.se true, hS⟩, ST.out.trans ⟨(Fr.one _ _ _ _).mono (fun k _ hk => by rw [hS]; exact .inl hk), fun k hk => .inl hk⟩⟩
theorem echo_any (on : Bool) (h : TAt W B T S s) :
    Calls Try.prog 18 #[.pointer (some ⟨T, 0, none⟩), .bool on] W fun r w' => r = .returned (.tuple #[]) ∧ Does W B T S (echoP on s) w' := by
  have H := Lib.hid (discard_any h)
  obtain ⟨v0, v2, v5, p, h1, hS⟩ := h
  obtain ⟨-, -, -, c3, -, -⟩ := h1.cell
  have f3 := h1.frozen 3
  have H0 := Lib.hid h1
  have HS := Lib.hid hS
  clear h1 hS
  by_cases ho : on = s.echo
  · have R : echoP on s = s := if_pos ho
    have HR := Lib.hid R
    have b1 : (on == s.echo) = true := by simp [ho]
    have HO := Lib.hid ho
    clear R ho
    go_enter Try.func18, Try.ntmps18
    go_wp2
    refine bodyPost_end (results_none rfl _ _ _) rfl ?_
    rw [HR.out]
    exact ⟨rfl, S, ⟨v0, v2, v5, p, HO.out ▸ H0.out.se on, HS.out⟩, (Fr.one _ _ _ _).mono (fun k _ hk => by rw [HS.out]; exact .inl hk), fun k hk => .inl hk⟩
  · have R : echoP on s = ⟨[], [], on, s.shown⟩ := if_neg ho
    have HR := Lib.hid R
    have b1 : (on == s.echo) = false := by simpa using ho
    clear R ho
    go_enter Try.func18, Try.ntmps18
    go_wp2_with fail
    refine H.out.mono ?_
    rintro r w1 ⟨rfl, S1, ⟨v0, v2, v5, p, h1, hS⟩, st⟩
    obtain ⟨-, -, -, d3, -, -⟩ := h1.cell
    have g3 := h1.frozen 3
    have H1 := Lib.hid h1
    have ST := Lib.hid st
    clear h1 st H H0 HS c3 f3
    go_wp2
    refine bodyPost_end (results_none rfl _ _ _) rfl ?_
    rw [HR.out]
    exact ⟨rfl, S1, ⟨v0, v2, v5, p, H1.out.se on, hS⟩, ST.out.trans ⟨(Fr.one _ _ _ _).mono (fun k _ hk => by rw [hS]; exact .inl hk), fun k hk => .inl hk⟩⟩
theorem write_any (t : ByteArray) (h : TAt W B T S s) (hlen : s.shown.length + t.size ≤ 140737488355328) :
    Calls Try.prog 23 #[.pointer (some ⟨T, 0, none⟩), .string t] W fun r w' => r = .returned (.tuple #[]) ∧ Does W B T S (writeP t.data.toList s) w' := by
  obtain ⟨v0, v2, v5, p, h1, hS⟩ := h
  have H := Lib.hid (bws_any t h1 hlen)
  clear h1
  go_enter Try.func23, Try.ntmps23
  go_wp2_with fail
  refine H.out.mono ?_
  rintro r w1 ⟨rfl, p', v5', h1, st⟩
  clear H
  go_wp2
  refine bodyPost_end (results_none rfl _ _ _) rfl ?_
  exact ⟨rfl, _, ⟨_, _, _, _, h1, rfl⟩, hS ▸ st⟩
def showP (t : Bs) (s : TS) : TS := ⟨s.L, s.line, s.echo, if s.echo then s.shown ++ t else s.shown⟩
theorem show_any (t : ByteArray) (h : TAt W B T S s) (hlen : s.shown.length + t.size ≤ 140737488355328) :
    Calls Try.prog 44 #[.pointer (some ⟨T, 0, none⟩), .string t] W fun r w' => r = .returned (.tuple #[]) ∧ Does W B T S (showP t.data.toList s) w' := by
  have H := Lib.hid (write_any t h hlen)
  have H0 := Lib.hid h
  obtain ⟨v0, v2, v5, p, h1, hS⟩ := h
  obtain ⟨-, -, -, c3, -, -⟩ := h1.cell
  clear h1 hS
  obtain ⟨L, line, e, sh⟩ := s
  cases e
  · go_enter Try.func44, Try.ntmps44
    go_wp2
    refine bodyPost_end (results_none rfl _ _ _) rfl ?_
    exact ⟨rfl, S, H0.out, Step.refl _ _⟩
  · go_enter Try.func44, Try.ntmps44
    go_wp2_with fail
    refine H.out.mono ?_
    rintro r w1 ⟨rfl, h1⟩
    have H1 := Lib.hid h1
    clear H h1 c3
    go_wp2
    refine bodyPost_end (results_none rfl _ _ _) rfl ?_
    exact ⟨rfl, H1.out⟩
theorem screen_any (h : TAt W B T S s) :
    Calls Try.prog 15 #[.pointer (some ⟨T, 0, none⟩)] W fun r w' => r = .returned (.string ⟨s.shown.toArray⟩) ∧ Does W B T S s w' := by
  obtain ⟨v0, v2, v5, p, h1, hS⟩ := h
  have H := Lib.hid (bstr_any h1)
  clear h1
  go_enter Try.func15, Try.ntmps15
  go_wp2_with fail
  refine H.out.mono ?_
  rintro r w1 ⟨rfl, h1, f1⟩
  clear H
  go_wp2
  go_ret
  exact ⟨rfl, S, ⟨_, _, _, _, h1, hS⟩, hS ▸ f1, fun k hk => .inl hk⟩
theorem unread_any (h : TAt W B T S s) :
    Calls Try.prog 12 #[.pointer (some ⟨T, 0, none⟩)] W fun r w' => r = .returned (.tuple #[.int .i64 (cnt s.L : Nat), .int .i64 (s.line.length : Nat)]) ∧ Does W B T S s w' := by
  have H := Lib.hid h
  obtain ⟨v0, v2, v5, p, h1, hS⟩ := h
  obtain ⟨-, c1, c2, -, -, -⟩ := h1.cell
  obtain ⟨ao, cap, hv, -⟩ := own_form h1.o2
  rw [hv] at c2
  clear h1 hS
  go_enter Try.func12, Try.ntmps12
  go_wp2
  go_quiet (fail)
  go_wp2
  go_ret2
  exact ⟨rfl, S, H.out.fr (R := fun _ => False) ((Fr.refl _ _).drewN _) (fun _ _ => id), ((Fr.refl _ _).drewN _), fun k hk => .inl hk⟩
theorem echoes_any (h : TAt W B T S s) :
    Calls Try.prog 14 #[.pointer (some ⟨T, 0, none⟩)] W fun r w' => r = .returned (.bool s.echo) ∧ Does W B T S s w' := by
  have H := Lib.hid h
  obtain ⟨v0, v2, v5, p, h1, hS⟩ := h
  obtain ⟨-, -, -, c3, -, -⟩ := h1.cell
  clear h1 hS
  go_enter Try.func14, Try.ntmps14
  go_wp2
  go_ret
  exact ⟨rfl, S, H.out, Step.refl _ _⟩
theorem queue_any (t : Bs) (h : TAt W B T S s) (hk : s.L.length ≤ 2000) (ht : t.length ≤ 2000) (hc : cnt s.L ≤ 2000) :
    Calls Try.prog 43 #[.pointer (some ⟨T, 0, none⟩), .string ⟨t.toArray⟩] W fun r w' => r = .returned (.tuple #[]) ∧ Does W B T S ⟨s.L ++ [t], [], s.echo, s.shown⟩ w' := by
  obtain ⟨i0, hi, hz0, hz1, hz2⟩ := info_string
  obtain ⟨v0, v2, v5, p, h1, hS⟩ := h
  obtain ⟨c0, c1, c2, -, -, -⟩ := h1.cell
  have HZ := fun w => size_any t (by unfold maxLen; omega) w
  obtain ⟨u, hu⟩ : ∃ u, u = (⟨t.toArray⟩ : ByteArray) := ⟨_, rfl⟩
  have hBW : B ≤ W.heap.size := Nat.le_trans h1.base (Nat.le_of_lt (heap_lt h1.hb))
  have HU := Lib.hid hu
  rw [← hu] at HZ ⊢
  have hA := h1.fr (S := fun _ => False) ((Fr.refl _ W).alloc (.cells #[.string u] 9)) (fun _ _ => id)
  have H := Lib.hid hA
  have HO0 := Lib.hid h1.o0
  have hbs : (s.L.length + 1) * 16 ≤ 140737488355328 := by omega
  clear hu h1 hA
  go_enter Try.func43, Try.ntmps43
  go_wp2_with (refine wpList_append_own_at _ rfl _ _ 37 rfl B 9 i0 (.string .empty) 1 16 Try.underlying37 hi hz0 hz1 hz2 rfl (by decide) v0 s.L.length (s.L.map encStr) rfl H.out.o0 ⟨W.heap.size, 0, none⟩ 1 1 [.string u] rfl rfl (cell_one_new W _ _) (by intro x hx; simp at hx; subst hx; rfl) (by unfold maxLen; omega) hbs (by simp; omega) ?_)
  intro v' w2 hown hgrow hnil hat
  have h0 : w2.ownsRow B 9 1 v' (s.L ++ [t]).length ((s.L ++ [t]).map encStr) := by
    rw [List.map_append, List.length_append]
    rw [HU.out] at hown
    exact hown
  obtain ⟨ao, cap, rfl, -⟩ := own_form hown
  obtain ⟨k1, k2, k3⟩ := H.out.a0 hgrow h0 (hat.imp id fun h => ⟨W.heap.size + 1, h, by simp⟩)
  have fT := (Fr.grown hgrow).block T (heap_lt H.out.hb) (fun hk => H.out.n0 T hk rfl)
  have f0 : w2.frozen? ⟨T, 0, none⟩ = false := (World.frozen?_of_block fT).trans (H.out.frozen 0)
  have e0 : w2.cell? ⟨T, 0, none⟩ = some v0 := (World.cell?_of_block fT).trans H.out.cell.1
  have K1 := Lib.hid k1
  have K2 := Lib.hid ((((Fr.refl (Bl T v0 v2 v5) W).alloc (.cells #[.string u] 9))).trans k2)
  have K3 := Lib.hid (fun k hk => (k3 k hk).imp id (fun (h : _ ≤ k) => (by rw [World.size_alloc] at h; omega : W.heap.size ≤ k)))
  clear k1 k2 k3 h0 hown hgrow hnil hat c0 c1 c2 H HO0 fT
  go_wp2_with fail
  generalize w2.setCell ⟨T, 0, none⟩ (.slice ao (s.L.length + 1) cap) = w3 at *
  clear e0 f0
  have hD := K1.out.fr (S := fun _ => False) ((Fr.refl _ w3).drew) (fun _ _ => id)
  have c1 := hD.cell.2.1
  have f1 := hD.frozen 1
  have d1 := K1.out.cell.2.1
  have d2 := K1.out.cell.2.2.1
  have g1 := K1.out.frozen 1
  have g2 := K1.out.frozen 2
  clear hD
  go_region_with (go_at_call 32; refine (HZ _).mono ?_; rintro r w4 ⟨rfl, rfl⟩)
  all_goals
    go_wp2
    refine bodyPost_end (results_none rfl _ _ _) rfl ?_
    have hq : ((cnt s.L : Nat) : Int) + (max 1 t.length : Nat) = (cnt (s.L ++ [t]) : Nat) := by rw [cnt_app, cnt_one]; omega
    have k1 := (K1.out.sq (cnt (s.L ++ [t]) : Nat)).s2 (v2' := .slice none 0 0) (line' := []) (own_none _ _ _) (fun k hk => by cases hk)
    rw [← hq] at k1
    have k2 := k1.fr (S := fun _ => False) ((Fr.refl _ _).drew) (fun _ _ => id)
    rw [hq] at k2 ⊢
    refine ⟨rfl, _, ⟨_, _, _, _, k2, rfl⟩, ?_, fun k hk => ?_⟩
    · rw [hS]
      exact ((K2.out.setCell (p := ⟨T, 1, none⟩) (.inl (.inl rfl)) _).setCell (p := ⟨T, 2, none⟩) (.inl (.inl rfl)) _).drew
    · rw [hS]
      rcases hk with hk | hk | hk | hk
      · exact .inl (.inl hk)
      · exact K3.out k (.inr (.inl hk))
      · cases hk
      · exact .inl (.inr (.inr (.inr hk)))
end Go.Proofs.Ytojbgokbobkbdaa
