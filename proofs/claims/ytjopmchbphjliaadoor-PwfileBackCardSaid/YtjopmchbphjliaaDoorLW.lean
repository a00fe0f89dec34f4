/- Walk of the law PwfileWhole. -/
import Derived.Test.YtjopmchbphjliaaDoorH1
import Derived.Test.YtjopmchbphjliaaDoorK2
namespace Go.Proofs.YtjopmchbphjliaaDoor
open Go.RowKit Go.Shelf

theorem right_at2 (p : Option Addr) (n cap : Nat) (us : List Usr) (b : Bool) (hb : rightL us = b) (w : World) (hin : InUsers w p n us) (hn : n ≤ cap) (hm : cap ≤ maxLen) :
    Calls Tryd.prog 8 #[.slice p n cap] w fun e w' => e = .returned (.bool b) ∧ Below w.heap.size w w' := by subst hb; exact right_any p n cap us w hin hn hm
theorem print_at (p : Option Addr) (n cap : Nat) (us : List Usr) (s : ByteArray) (hs : printS us = s.data.toList) (w : World) (henv : Env w) (hin : InUsers w p n us) (hn : n ≤ cap) (hm : cap ≤ maxLen) :
    Calls Tryd.prog 9 #[.slice p n cap] w fun e w' => e = .returned (.string s) ∧ Below w.heap.size w w' := by
  have h := print_any p n cap us w henv hin hn hm
  rw [hs] at h; exact h
theorem print_right {us : List Usr} (h : rightL us = true) : printS us = linesOf us := by unfold printS; rw [h]; rfl
theorem small_max (p : ByteArray) (h : p.size ≤ 140737488351232) : p.size ≤ maxLen := by unfold maxLen; omega
theorem append_data (s t : ByteArray) : (s ++ t).data.toList = s.data.toList ++ t.data.toList := by rw [ByteArray.data_append]; simp
theorem append_size (s t : ByteArray) : (s ++ t).size = s.size + t.size := by rw [← size_len, append_data, List.length_append, size_len, size_len]
set_option maxRecDepth 100000 in
set_option maxHeartbeats 3200000 in
theorem whole_walk (s : ByteArray) (hreach : s.size ≤ 140737488351232) (w : World) (henv : Env w) :
    Calls Tryd.prog 4 #[.string s] w fun e w' => e = .returned (.bool true) ∧ Below w.heap.size w w' := by
  have hmax := small_max s hreach
  obtain ⟨us, k, e, hp⟩ : ∃ us k e, parseR s = (us, k, e) := ⟨_, _, _, rfl⟩
  have cs := shown_any w henv
  have cp := fun w1 h => parse_at s hmax us k e hp w1 h
  have Cp := Lib.hid cp
  by_cases he : e = 0
  · subst he
    obtain ⟨rfl, hr, hl, hsz⟩ := parse_sound hp
    obtain ⟨h8, hall⟩ := rightL_parts hr
    have hul : (us.length : Int) ≤ 8 := by omega
    have Hall := Lib.hid hall
    have Hpr := Lib.hid (show printS us = s.data.toList by rw [print_right hr, hl])
    have Hr := Lib.hid hr
    by_cases h0 : us = []
    · subst h0
      have hs0 : s.data.toList = [] := by rw [← hl]; rfl
      have hse : s = ⟨#[]⟩ := Mx.empty_list s hs0
      subst hse
      have hp2 : parseR (⟨#[]⟩ ++ ⟨#[]⟩ : ByteArray) = ([], 0, 0) := hp
      have cp2 := fun w1 h => parse_at (⟨#[]⟩ ++ ⟨#[]⟩ : ByteArray) (by decide) [] 0 0 hp2 w1 h
      have Cp2 := Lib.hid cp2
      clear hp hp2 cp cp2 hl hr hall hs0 hsz h8 hreach hmax
      go_enter Tryd.func4, Tryd.ntmps4
      go_wp2_with fail
      refine cs.mono ?_
      rintro x w1 ⟨rfl, hb1⟩
      have henv1 := henv.below hb1
      clear henv cs
      go_wp2_with fail
      refine (Cp.out _ henv1).mono ?_
      rintro x w2 ⟨p, cap, rfl, hrow, hb2⟩
      have henv2 := henv1.below hb2
      have hb12 := next hb1 hb1.size hb2
      obtain ⟨hin, _, hcap, hcm⟩ := InUsers.of_row hrow (fun u hu => right_ok (Hall.out u hu))
      have c3 := print_at p 0 cap [] ⟨#[]⟩ Hpr.out w2 henv2 hin hcap hcm
      have Hin := Lib.hid hin
      clear hrow hin hb1 hb2
      simp only [List.length_nil]
      go_wp2_with fail
      refine c3.mono ?_
      rintro x w3 ⟨rfl, hb3⟩
      have c4 := right_at2 p 0 cap [] true Hr.out w3 (Hin.out.below hb3 (Nat.le_refl _)) hcap hcm
      have hb13 := next hb12 hb12.size hb3
      have henv3 := henv2.below hb3
      clear c3 hb12
      go_wp2_with fail
      refine c4.mono ?_
      rintro x w4 ⟨rfl, hb4⟩
      have hb14 := next hb13 hb13.size hb4
      have henv4 := henv3.below hb4
      clear c4 hb13 hb3 hb4 henv3
      go_wp2_with fail
      refine (Cp2.out _ henv4).mono ?_
      rintro x w5 ⟨p2, cap2, rfl, _, hb5⟩
      have hb15 := next hb14 hb14.size hb5
      go_wp2
      go_ret
      exact ⟨rfl, hb15⟩
    · have hse : s.toList.isEmpty = false := isEmpty_no (fun x => h0 (by
        cases us with
        | nil => rfl
        | cons u r =>
          rw [← hl] at x
          unfold linesOf at x
          rw [List.map_cons, List.flatten_cons, line_core] at x
          simp at x))
      have hss : (s ++ s).size = s.size + s.size := append_size s s
      have hsm : (s ++ s).size ≤ maxLen := by unfold maxLen; omega
      have hssd := append_data s s
      by_cases h2 : 4096 < 2 * (s.size : Int)
      · have hp2 : parseR (s ++ s) = ([], 0, 10) := by unfold parseR; rw [if_pos (by omega)]
        have cp2 := fun w1 h => parse_at (s ++ s) hsm [] 0 10 hp2 w1 h
        have Cp2 := Lib.hid cp2
        clear hp hp2 cp cp2 hl hr hall h8 hmax h0 hss hsm hssd
        go_enter Tryd.func4, Tryd.ntmps4
        go_wp2_with fail
        refine cs.mono ?_
        rintro x w1 ⟨rfl, hb1⟩
        have henv1 := henv.below hb1
        clear henv cs
        go_wp2_with fail
        refine (Cp.out _ henv1).mono ?_
        rintro x w2 ⟨p, cap, rfl, hrow, hb2⟩
        have henv2 := henv1.below hb2
        have hb12 := next hb1 hb1.size hb2
        obtain ⟨hin, _, hcap, hcm⟩ := InUsers.of_row hrow (fun u hu => right_ok (Hall.out u hu))
        have c3 := print_at p us.length cap us s Hpr.out w2 henv2 hin hcap hcm
        have Hin := Lib.hid hin
        clear hrow hin hb1 hb2
        go_wp2_with fail
        refine c3.mono ?_
        rintro x w3 ⟨rfl, hb3⟩
        have c4 := right_at2 p us.length cap us true Hr.out w3 (Hin.out.below hb3 (Nat.le_refl _)) hcap hcm
        have hb13 := next hb12 hb12.size hb3
        have henv3 := henv2.below hb3
        clear c3 hb12
        go_wp2_with fail
        refine c4.mono ?_
        rintro x w4 ⟨rfl, hb4⟩
        have hb14 := next hb13 hb13.size hb4
        have henv4 := henv3.below hb4
        clear c4 hb13 hb3 hb4 henv3
        go_wp2_with fail
        refine (Cp2.out _ henv4).mono ?_
        rintro x w5 ⟨p2, cap2, rfl, _, hb5⟩
        have hb15 := next hb14 hb14.size hb5
        simp only [List.length_nil]
        go_wp2
        go_ret
        exact ⟨rfl, hb15⟩
      · have hp2 : parseR (s ++ s) = ([], us.length + 1, 5) := parse_twice hr hl h0 hssd (by omega)
        have cp2 := fun w1 h => parse_at (s ++ s) hsm [] (us.length + 1) 5 hp2 w1 h
        have Cp2 := Lib.hid cp2
        clear hp hp2 cp cp2 hl hr hall h8 hmax h0 hss hsm hssd
        go_enter Tryd.func4, Tryd.ntmps4
        go_wp2_with fail
        refine cs.mono ?_
        rintro x w1 ⟨rfl, hb1⟩
        have henv1 := henv.below hb1
        clear henv cs
        go_wp2_with fail
        refine (Cp.out _ henv1).mono ?_
        rintro x w2 ⟨p, cap, rfl, hrow, hb2⟩
        have henv2 := henv1.below hb2
        have hb12 := next hb1 hb1.size hb2
        obtain ⟨hin, _, hcap, hcm⟩ := InUsers.of_row hrow (fun u hu => right_ok (Hall.out u hu))
        have c3 := print_at p us.length cap us s Hpr.out w2 henv2 hin hcap hcm
        have Hin := Lib.hid hin
        clear hrow hin hb1 hb2
        go_wp2_with fail
        refine c3.mono ?_
        rintro x w3 ⟨rfl, hb3⟩
        have c4 := right_at2 p us.length cap us true Hr.out w3 (Hin.out.below hb3 (Nat.le_refl _)) hcap hcm
        have hb13 := next hb12 hb12.size hb3
        have henv3 := henv2.below hb3
        clear c3 hb12
        go_wp2_with fail
        refine c4.mono ?_
        rintro x w4 ⟨rfl, hb4⟩
        have hb14 := next hb13 hb13.size hb4
        have henv4 := henv3.below hb4
        clear c4 hb13 hb3 hb4 henv3
        go_wp2_with fail
        refine (Cp2.out _ henv4).mono ?_
        rintro x w5 ⟨p2, cap2, rfl, _, hb5⟩
        have hb15 := next hb14 hb14.size hb5
        simp only [List.length_nil]
        go_wp2
        go_ret
        exact ⟨rfl, hb15⟩
  · obtain ⟨rfl, hk⟩ := parse_err hp he
    have hen : (((e : Int) != 0) : Bool) = true := by rw [bne_iff_ne]; omega
    clear hp cp
    rcases hk with hk | hk
    all_goals
      go_enter Tryd.func4, Tryd.ntmps4
      go_wp2_with fail
      refine cs.mono ?_
      rintro x w1 ⟨rfl, hb1⟩
      have henv1 := henv.below hb1
      clear henv cs
      go_wp2_with fail
      refine (Cp.out _ henv1).mono ?_
      rintro x w2 ⟨p, cap, rfl, hrow, hb2⟩
      have hb12 := next hb1 hb1.size hb2
      simp only [List.length_nil]
      clear hrow
      go_wp2
      all_goals
        go_ret
        exact ⟨ret_bool (by simp; try omega), hb12⟩
end Go.Proofs.YtjopmchbphjliaaDoor
