/- Keys of the program's terminal: enter, end, erase. -/
import Derived.Test.YtojbgokbobkbdaaEE
namespace Go.Proofs.Ytojbgokbobkbdaa
open Go.RowKit
set_option linter.unusedVariables false
set_option linter.unusedSimpArgs false
variable {W W' : World} {B T : Nat} {v0 v2 p v5 : Value} {q : Int} {e : Bool} {L : List Bs} {line sh : Bs} {S : Nat → Prop} {s : TS}
theorem ba_app (a b : Bs) : (⟨a.toArray⟩ : ByteArray) ++ ⟨b.toArray⟩ = ⟨(a ++ b).toArray⟩ := by
  apply ByteArray.ext
  simp
theorem ba_size (a : Bs) : (⟨a.toArray⟩ : ByteArray).size = a.length := by rw [← ByteArray.size_data]; simp
theorem ba_eq (t : ByteArray) : t = ⟨t.data.toList.toArray⟩ := by simp
theorem own_text {W : World} {B : Nat} {v : Value} {l : Bs} (h : W.ownsRow B 5 1 v l.length (Lib.byteCells l)) : (convert 46 9 v).run Try.prog W = .ok (.string ⟨l.toArray⟩) W := by
  rcases h.2 with ⟨rfl, h0⟩ | ⟨g, cap, cur, rfl, hb, hg, hc⟩
  · have : l = [] := List.eq_nil_of_length_eq_zero h0
    subst this
    exact run_convert_bytes_nil W 46 5 Try.underlying46 Try.underlying5 0 0 9 Try.underlying9
  · exact run_convert_bytes_back W 46 9 5 ⟨g, 0, none⟩ cap l Try.underlying46 Try.underlying5 Try.underlying9 fun j hj =>
      h.cells (g := g) rfl j _ (by simp [Lib.byteCells, hj])
theorem enter_any (h : TAt W B T S s) (hk : Ok s) (hs : s.shown.length ≤ 100000000000000) :
    Calls Try.prog 35 #[.pointer (some ⟨T, 0, none⟩)] W fun r w' => r = .returned (.tuple #[]) ∧ Does W B T S (enterP s) w' := by
  have HF := Lib.hid (full_any s h hk)
  have HK := Lib.hid hk
  by_cases hf : isFull s = true
  · have R : enterP s = s := if_pos hf
    rw [hf] at HF
    have HR := Lib.hid R
    clear h hk R hf
    go_enter Try.func35, Try.ntmps35
    go_wp2_with fail
    refine HF.out.mono ?_
    rintro r w1 ⟨rfl, h1, f1⟩
    clear HF
    go_wp2
    refine bodyPost_ret (results_none rfl _ _ _) rfl ?_
    rw [HR.out]
    exact ⟨rfl, S, h1, f1.mono (fun _ _ h => h.elim), fun k hk => .inl hk⟩
  · have R : enterP s = ⟨s.L ++ [s.line ++ [10]], [], s.echo, s.shown ++ [10]⟩ := if_neg hf
    have hf' : isFull s = false := by simpa using hf
    rw [hf'] at HF
    have hl := hk.lines
    have hc := hk.all
    have hl2 := hk.line
    have HR := Lib.hid R
    clear h hk R hf hf'
    go_enter Try.func35, Try.ntmps35
    go_wp2_with fail
    refine HF.out.mono ?_
    rintro r w1 ⟨rfl, h1, f1⟩
    clear HF
    have HQ := Lib.hid (queue_any (s.line ++ [10]) h1 (by omega) (by simp; omega) (by omega))
    have F1 := Lib.hid f1
    obtain ⟨v0, v2, v5, p, h2, hS⟩ := h1
    obtain ⟨-, -, c2, -, -, -⟩ := h2.cell
    have hcv := own_text h2.o2
    have hsz := ba_size s.line
    rw [← ba_app] at HQ
    generalize (⟨s.line.toArray⟩ : ByteArray) = u at *
    clear h2 f1
    go_wp2_with fail
    refine HQ.out.mono ?_
    rintro r w2 ⟨rfl, S2, h2, st2⟩
    clear HQ hcv c2
    have HW := Lib.hid (write_any (⟨#[10]⟩ : ByteArray) h2 (by simp only; rw [show (⟨#[10]⟩ : ByteArray).size = 1 from rfl]; omega))
    go_wp2_with fail
    refine HW.out.mono ?_
    rintro r w3 ⟨rfl, h3⟩
    clear HW
    go_wp2
    refine bodyPost_end (results_none rfl _ _ _) rfl ?_
    rw [HR.out]
    exact ⟨rfl, Does.then ((Step.trans ⟨F1.out.mono (fun _ _ h => h.elim), fun k hk => .inl hk⟩ st2)) h3⟩
theorem end_any (h : TAt W B T S s) (hk : Ok s) :
    Calls Try.prog 36 #[.pointer (some ⟨T, 0, none⟩)] W fun r w' => r = .returned (.tuple #[]) ∧ Does W B T S (endP s) w' := by
  have HF := Lib.hid (full_any s h hk)
  have H := Lib.hid h
  have hl := hk.lines
  have hc := hk.all
  have hl2 := hk.line
  have HQ := Lib.hid (fun w1 (h1 : TAt w1 B T S s) => queue_any s.line h1 (by omega) (by omega) (by omega))
  obtain ⟨v0, v2, v5, p, h1, hS⟩ := h
  obtain ⟨-, -, c2, -, -, -⟩ := h1.cell
  have hcv := own_text h1.o2
  obtain ⟨ao, cap, hv, -⟩ := own_form h1.o2
  rw [hv] at c2 hcv
  clear h1 hS
  by_cases h0 : s.line.length = 0
  · rw [h0] at c2 hcv
    by_cases hf : isFull s = true
    · have R : endP s = s := if_pos ⟨h0, hf⟩
      rw [hf] at HF
      have HR := Lib.hid R
      clear hk R hf h0 hcv
      go_enter Try.func36, Try.ntmps36
      go_wp2_with fail
      refine HF.out.mono ?_
      rintro r w1 ⟨rfl, h1, f1⟩
      clear HF
      go_wp2
      refine bodyPost_ret (results_none rfl _ _ _) rfl ?_
      rw [HR.out]
      exact ⟨rfl, S, h1, f1.mono (fun _ _ h => h.elim), fun k hk => .inl hk⟩
    · have R : endP s = ⟨s.L ++ [s.line], [], s.echo, s.shown⟩ := if_neg (fun h => hf h.2)
      have hf' : isFull s = false := by simpa using hf
      rw [hf'] at HF
      have HR := Lib.hid R
      clear hk R hf hf' h0 hcv
      go_enter Try.func36, Try.ntmps36
      go_wp2_with fail
      refine HF.out.mono ?_
      rintro r w1 ⟨rfl, h1, f1⟩
      have HQ1 := Lib.hid (HQ.out w1 h1)
      have F1 := Lib.hid f1
      clear HF HQ c2
      obtain ⟨v0, v2, v5, p, h2, hS⟩ := h1
      obtain ⟨-, -, c2, -, -, -⟩ := h2.cell
      have hcv := own_text h2.o2
      generalize (⟨s.line.toArray⟩ : ByteArray) = u at *
      clear h2 f1
      go_wp2_with fail
      refine HQ1.out.mono ?_
      rintro r w2 ⟨rfl, h2⟩
      clear HQ1
      go_wp2
      refine bodyPost_end (results_none rfl _ _ _) rfl ?_
      rw [HR.out]
      exact ⟨rfl, Does.then ⟨F1.out.mono (fun _ _ h => h.elim), fun k hk => .inl hk⟩ h2⟩
  · have R : endP s = ⟨s.L ++ [s.line], [], s.echo, s.shown⟩ := if_neg (fun h => h0 h.1)
    have HR := Lib.hid R
    have hne : ((s.line.length : Int) == 0) = false := by simpa using h0
    have HQ1 := Lib.hid (HQ.out W H.out)
    clear hk R HF HQ
    generalize (⟨s.line.toArray⟩ : ByteArray) = u at *
    go_enter Try.func36, Try.ntmps36
    go_wp2_with fail
    refine HQ1.out.mono ?_
    rintro r w2 ⟨rfl, h2⟩
    clear HQ1
    go_wp2
    refine bodyPost_end (results_none rfl _ _ _) rfl ?_
    rw [HR.out]
    exact ⟨rfl, h2⟩
theorem repeat_backs (n : Nat) : Lib.repeatL [8, 32, 8] n = backs n := by
  induction n with
  | zero => rfl
  | succ n ih => simp [Lib.repeatL, backs, ih]
theorem own_cut {W : World} {B : Nat} {e : TypeId} {ao : Option Addr} {cap n m : Nat} {xs : List Value} (h : W.ownsRow B e 1 (.slice ao n cap) n xs) (hm : m ≤ n) : W.ownsRow B e 1 (.slice ao m cap) m (xs.take m) := by
  have hl := h.1
  refine ⟨by simp; omega, ?_⟩
  rcases h.2 with ⟨hv, rfl⟩ | ⟨g, cap', cur, hv, hb, hg, h1, h2, h3, h4⟩
  · cases hv
    obtain rfl : m = 0 := by omega
    exact .inl ⟨rfl, rfl⟩
  · cases hv
    refine .inr ⟨g, cap, cur, rfl, hb, hg, by omega, h2, h3, ?_⟩
    rw [← h4, List.take_take, Nat.mul_one, Nat.mul_one, Nat.min_eq_left hm]
theorem TAt.erased {m k : Nat} (h : TAt W B T S s) (hk : s.line.length = k + m) : ∃ ao cap, W.cell? ⟨T, 2, none⟩ = some (.slice ao (k + m) cap) ∧ k + m ≤ cap ∧ TAt (W.setCell ⟨T, 2, none⟩ (.slice ao k cap)) B T S ⟨s.L, s.line.take k, s.echo, s.shown⟩ := by
  obtain ⟨v0, v2, v5, p, h1, hS⟩ := h
  obtain ⟨ao, cap, rfl, hc⟩ := own_form h1.o2
  have hcut := own_cut h1.o2 (show k ≤ s.line.length by omega)
  have hl : (s.line.take k).length = k := by rw [List.length_take]; omega
  have ht : (Lib.byteCells s.line).take k = Lib.byteCells (s.line.take k) := by simp [Lib.byteCells, List.map_take]
  rw [ht] at hcut
  refine ⟨ao, cap, by rw [← hk]; exact h1.cell.2.2.1, by omega, _, _, _, _, h1.s2 (line' := s.line.take k) (by rw [hl]; exact hcut) (fun j hj => h1.n25 j (by cases ao <;> simp [Value.ownBlock] at hj ⊢; exact hj)), ?_⟩
  rw [hS]
  funext j
  cases ao <;> rfl
theorem erase_any (n : Nat) (hn : n ≤ 1000) (h : TAt W B T S s) (hk : Ok s) (hs : s.shown.length ≤ 100000000000000) :
    Calls Try.prog 37 #[.pointer (some ⟨T, 0, none⟩), .int .i64 n] W fun r w' => r = .returned (.tuple #[]) ∧ Does W B T S (eraseP n s) w' := by
  have hl2 := hk.line
  obtain ⟨m, hm⟩ : ∃ m, m = min n s.line.length := ⟨_, rfl⟩
  obtain ⟨k, hkk⟩ : ∃ k, s.line.length = k + m := ⟨s.line.length - m, by omega⟩
  obtain ⟨ao, cap, c2, hcap, h2⟩ := h.erased hkk
  have hD := h2.fr (R := fun _ => False) ((Fr.refl _ _).drew) (fun _ _ => id)
  have R : eraseP n s = showP (backs m) ⟨s.L, s.line.take k, s.echo, s.shown⟩ := by
    unfold eraseP showP
    rw [show s.line.length - n = k by omega, ← hm]
  have HR := Lib.hid R
  have f2 : W.frozen? ⟨T, 2, none⟩ = false := by
    obtain ⟨v0, v2, v5, p, h1, hS⟩ := h
    exact h1.frozen 2
  have d2 : W.drew.cell? ⟨T, 2, none⟩ = some (.slice ao (k + m) cap) := c2
  have g2 : W.drew.frozen? ⟨T, 2, none⟩ = false := f2
  have H2 := Lib.hid hD
  have HS := Lib.hid h.self
  have hmn : min (n : Int) ((k : Int) + m) = (m : Int) := by omega
  have hw : IntKind.i64.wrap (k : Int) = k := by rw [IntKind.wrap_i64]; omega
  have hkc : (k : Int) ≤ cap := by omega
  have hm1 : m ≤ 1000 := by omega
  have HM := Lib.hid hmn
  clear h hD h2 R hm hkk hk hl2 hmn
  have fin : ∀ (w1 : World), w1 = (W.setCell ⟨T, 2, none⟩ (.slice ao k cap)).drew → Fr S W w1 := by
    rintro w1 rfl
    exact ((Fr.refl _ W).setCell (p := ⟨T, 2, none⟩) (.inl HS.out) _).drew
  go_enter Try.func37, Try.ntmps37
  go_wp2
  rw [HM.out]
  go_region
  all_goals
    go_wp2_with fail
    have F1 := Lib.hid (fin _ rfl)
    generalize (W.setCell ⟨T, 2, none⟩ (.slice ao k cap)).drew = w1 at *
    refine (Try.strings_Repeat ⟨#[8, 32, 8]⟩ m w1 (by omega) (by rw [show (⟨#[8, 32, 8]⟩ : ByteArray).size = 3 from rfl]; omega)).mono ?_
    rintro r w2 ⟨rfl, b2⟩
    rw [show (⟨#[8, 32, 8]⟩ : ByteArray).data.toList = [8, 32, 8] from rfl, repeat_backs]
    have h3 := H2.out.fr (R := fun _ => False) (Fr.of_below b2) (fun _ _ => id)
    have HS3 := Lib.hid (show_any ⟨(backs m).toArray⟩ h3 (by rw [ba_size, backs_len]; simp only; omega))
    have F2 := Lib.hid (F1.out.trans ((Fr.of_below (S := fun _ => False) b2).mono (fun _ _ h => h.elim)))
    clear c2 f2 d2 g2 H2 h3 b2 F1 fin
    go_wp2_with fail
    refine HS3.out.mono ?_
    rintro r w3 ⟨rfl, h3⟩
    clear HS3
    go_wp2
    refine bodyPost_end (results_none rfl _ _ _) rfl ?_
    rw [HR.out]
    exact ⟨rfl, Does.then ⟨F2.out, fun k hk => .inl hk⟩ h3⟩
end Go.Proofs.Ytojbgokbobkbdaa
